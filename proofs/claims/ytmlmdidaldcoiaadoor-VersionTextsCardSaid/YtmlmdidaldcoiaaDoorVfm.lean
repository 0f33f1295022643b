/- The names of the serialisations: the map that the program makes, and the serialisation with a name. -/
import Derived.Test.YtmlmdidaldcoiaaDoorMapg
import Derived.Test.YtmlmdidaldcoiaaDoorVdata
import Derived.BigQuiet
import Derived.Lib.TrimUEq
namespace Go.Proofs.YtmlmdidaldcoiaaDoor
open Go Go.Maps Go.ChangeShapes Go.WideShapes Go.ChangeAt Go.RowKit
set_option linter.unusedVariables false
set_option linter.unusedSimpArgs false

def fmD : DataW Unit := (((DataW.map []).put (.int .i64 1) (.lit (.string [74, 83, 79, 78]))).put (.int .i64 2) (.lit (.string [67, 66, 79, 82]))).put (.int .i64 3) (.lit (.string [77, 71, 80, 75]))
def isFm (f : Int) : Bool := inR f 3 && !decide (f = 0)
theorem isFm_cases (f : Int) : (isFm f = true ∧ (f = 1 ∨ f = 2 ∨ f = 3)) ∨ (isFm f = false ∧ f ≠ 1 ∧ f ≠ 2 ∧ f ≠ 3 ∧ formL f = []) := by
  unfold isFm inR
  by_cases h1 : f = 1
  · subst h1; exact .inl ⟨rfl, by decide⟩
  by_cases h2 : f = 2
  · subst h2; exact .inl ⟨rfl, by decide⟩
  by_cases h3 : f = 3
  · subst h3; exact .inl ⟨rfl, by decide⟩
  refine .inr ⟨?_, h1, h2, h3, by unfold formL; rw [if_neg h1, if_neg h2, if_neg h3]⟩
  cases e : decide (f = 0)
  · have := of_decide_eq_false e
    by_cases h0 : 0 ≤ f
    · rw [decide_eq_true h0, decide_eq_false (by omega)]; rfl
    · rw [decide_eq_false h0]; rfl
  · rw [Bool.not_true, Bool.and_false]
theorem fm_look (f : Int) : Maps.has fmD (.int .i64 f) = isFm f ∧ ∀ z, fmD.atKey (.int .i64 f) z = if isFm f then .lit (.string (formL f)) else z := by
  have i0 : IsMap (.map [] : DataW Unit) := isMap_empty
  have i1 := i0.put (.int .i64 1) (.lit (.string [74, 83, 79, 78]))
  have i2 := i1.put (.int .i64 2) (.lit (.string [67, 66, 79, 82]))
  unfold fmD
  refine ⟨?_, fun z => ?_⟩
  · rw [putZ_has i2, putZ_has i1, putZ_has i0, show Maps.has (.map [] : DataW Unit) (.int .i64 f) = false from rfl]
    rcases isFm_cases f with ⟨h, rfl | rfl | rfl⟩ | ⟨h, h1, h2, h3, -⟩
    · rfl
    · rfl
    · rfl
    · rw [h, decide_eq_false h1, decide_eq_false h2, decide_eq_false h3]; rfl
  · rw [putZ_at i2, putZ_at i1, putZ_at i0, show (.map [] : DataW Unit).atKey (.int .i64 f) z = z from rfl]
    rcases isFm_cases f with ⟨h, rfl | rfl | rfl⟩ | ⟨h, h1, h2, h3, -⟩
    · rfl
    · rfl
    · rfl
    · rw [h, if_neg h1, if_neg h2, if_neg h3]; rfl
theorem lawI64 : Keyed Tryd.prog 3 := int_keyed Tryd.underlying3
theorem zeroStrV (w : World) : (zeroValue 9).run Tryd.prog w = .ok (.string ⟨#[]⟩) w := by kernel_rfl
/-- Block m is the map of the names. -/
def Fnames (w : World) (m : Nat) : Prop := w.ownsMap Tryd.prog 3 (plainElem (H := Unit) Tryd.prog 9) m 3 fmD
theorem Fnames.kept {w w' : World} {m : Nat} {row : Option Nat} (h : Fnames w m) (hg : w.grownBy w' row) (hne : some m ≠ row) : Fnames w' m := World.ownsMap.kept h hg hne
theorem Fnames.below {w w' : World} {m : Nat} (h : Fnames w m) (hb : Below w.heap.size w w') : Fnames w' m := h.kept (grown_of_below hb (Nat.le_refl _) none) (by simp)
theorem Fnames.lt {w : World} {m : Nat} (h : Fnames w m) : m < w.heap.size := World.ownsMap.lt h
theorem Fnames.look {w : World} {m : Nat} (h : Fnames w m) {f : Int} (hf : -9223372036854775808 ≤ f) (hf2 : f ≤ 9223372036854775807) : (∃ v ps, (Instr.lookup 50 (.map (some m)) (.int .i64 f) true).run Tryd.prog w = .ok (.tuple #[v, .bool (Maps.has fmD (.int .i64 f))]) w ∧ plainElem (H := Unit) Tryd.prog 9 v = some (fmD.atKey (.int .i64 f) (.lit (.string [])), ps)) := by
  have hwf : (Lit.int IntKind.i64 f).wf = true := by simp [Lit.wf, IntKind.min, IntKind.max, IntKind.signed, IntKind.bits]; omega
  exact World.ownsMap.look_ok h lawI64 Tryd.underlying50 (zeroStrV w) (plainElem_string Tryd.underlying9 (by decide)) (keyOf_int_mk Tryd.underlying3 hwf)
theorem fm_str {f : Int} {v : Value} {ps : List MemPlace} (hv : plainElem (H := Unit) Tryd.prog 9 v = some (fmD.atKey (.int .i64 f) (.lit (.string [])), ps)) : v = .string ⟨(formL f).toArray⟩ := by
  obtain ⟨s, rfl, e', _⟩ := plainElem_string_inv Tryd.underlying9 hv
  rw [(fm_look f).2] at e'
  have hs : s = ⟨(formL f).toArray⟩ := by
    rcases isFm_cases f with ⟨hq, -⟩ | ⟨hq, -, -, -, h0⟩
    · rw [hq, if_pos rfl] at e'
      simp only [Prod.mk.injEq, DataW.lit.injEq, Lit.string.injEq] at e'
      exact ByteArray.ext (Array.toList_inj.1 e'.1.symm)
    · rw [hq, if_neg (by decide)] at e'
      simp only [Prod.mk.injEq, DataW.lit.injEq, Lit.string.injEq] at e'
      rw [h0]
      exact ByteArray.ext (Array.toList_inj.1 e'.1.symm)
  rw [hs]
theorem Fnames.look2 {w : World} {m : Nat} (h : Fnames w m) {f : Int} (hf : -9223372036854775808 ≤ f) (hf2 : f ≤ 9223372036854775807) : (Instr.lookup 50 (.map (some m)) (.int .i64 f) true).run Tryd.prog w = .ok (.tuple #[.string ⟨(formL f).toArray⟩, .bool (isFm f)]) w := by
  obtain ⟨v, ps, hrun, hv⟩ := h.look hf hf2
  rw [hrun, fm_str hv, (fm_look f).1]
theorem Fnames.look1 {w : World} {m : Nat} (h : Fnames w m) {f : Int} (hf : -9223372036854775808 ≤ f) (hf2 : f ≤ 9223372036854775807) : (Instr.lookup 50 (.map (some m)) (.int .i64 f) false).run Tryd.prog w = .ok (.string ⟨(formL f).toArray⟩) w := by
  have hwf : (Lit.int IntKind.i64 f).wf = true := by simp [Lit.wf, IntKind.min, IntKind.max, IntKind.signed, IntKind.bits]; omega
  obtain ⟨v, ps, hrun, hv⟩ := World.ownsMap.lookup h lawI64 Tryd.underlying50 (zeroStrV w) (plainElem_string Tryd.underlying9 (by decide)) (keyOf_int_mk Tryd.underlying3 hwf)
  rw [hrun, fm_str hv]
set_option maxHeartbeats 1600000 in
set_option maxRecDepth 100000 in
theorem fnames_any (w : World) : Calls Tryd.prog 23 #[] w fun e w' => e = .returned (.map (some w.heap.size)) ∧ Fnames w' w.heap.size ∧ Below w.heap.size w w' := by
  have hmm := @run_makeMap Tryd.prog
  have h0 := World.ownsMap_made (H := Unit) w Tryd.prog 3 (plainElem (H := Unit) Tryd.prog 9)
  have b0 := (Below.refl w.heap.size w).alloc (o := .map #[] 0) (Nat.le_refl _)
  have H0 := Lib.hid h0
  have B0 := Lib.hid b0
  clear h0 b0
  go_enter Tryd.func23, Tryd.ntmps23
  go_wp2_with (first
    | (refine wpList_insert_own _ rfl _ _ _ 50 rfl 3 9 lawI64 Tryd.underlying50 _ w.heap.size 2 _ rfl h2 (by unfold maxLen; omega) _ _ _ rfl rfl (keyOf_int_mk Tryd.underlying3 (a := 3) (by decide)) _ [] (plainElem_string Tryd.underlying9 (s := ⟨#[77, 71, 80, 75]⟩) (by decide)) ?_; intro w3 h3 g3; (have b3 := gbelow b2 g3 (b2.size) (Nat.le_refl _)))
    | (refine wpList_insert_own _ rfl _ _ _ 50 rfl 3 9 lawI64 Tryd.underlying50 _ w.heap.size 1 _ rfl h1 (by unfold maxLen; omega) _ _ _ rfl rfl (keyOf_int_mk Tryd.underlying3 (a := 2) (by decide)) _ [] (plainElem_string Tryd.underlying9 (s := ⟨#[67, 66, 79, 82]⟩) (by decide)) ?_; intro w2 h2 g2; (have b2 := gbelow b1 g2 (b1.size) (Nat.le_refl _)))
    | (refine wpList_insert_own _ rfl _ _ _ 50 rfl 3 9 lawI64 Tryd.underlying50 _ w.heap.size 0 _ rfl H0.out (by unfold maxLen; omega) _ _ _ rfl rfl (keyOf_int_mk Tryd.underlying3 (a := 1) (by decide)) _ [] (plainElem_string Tryd.underlying9 (s := ⟨#[74, 83, 79, 78]⟩) (by decide)) ?_; intro w1 h1 g1; (have b1 := gbelow B0.out g1 (B0.out.size) (Nat.le_refl _))))
  go_ret
  exact ⟨rfl, h3, b3⟩
/-- While the names are gone through: those that are done are other names. -/
def FoSt (l : List UInt8) (left : Lit → Bool) : Prop := ∀ f : Int, isFm f = true → left (.int .i64 f) = false → formL f ≠ l
theorem formN_hit {f : Int} {l : List UInt8} (h : isFm f = true) (e : formL f = l) : formN l = f := by
  rcases isFm_cases f with ⟨-, h'⟩ | ⟨h', -⟩
  · rw [← e]; exact (formL_len h').2
  · rw [h] at h'; cases h'
theorem formN_miss {l : List UInt8} (h : ∀ f : Int, isFm f = true → formL f ≠ l) : formN l = 0 := by
  unfold formN
  rw [if_neg (fun e => h 1 rfl e.symm), if_neg (fun e => h 2 rfl e.symm), if_neg (fun e => h 3 rfl e.symm)]
set_option maxHeartbeats 1600000 in
set_option maxRecDepth 100000 in
theorem fof_any (s : ByteArray) (w : World) : Calls Tryd.prog 29 #[.string s] w fun e w' => e = .returned (.int .i64 (formN s.data.toList)) ∧ Below w.heap.size w w' := by
  have FN := Lib.hid (fnames_any w)
  obtain ⟨m, hm⟩ : ∃ m, m = w.heap.size := ⟨_, rfl⟩
  rw [← hm] at FN
  have HM := Lib.hid hm
  clear hm
  go_enter Tryd.func29, Tryd.ntmps29
  go_upto_region 2 with (first
    | (go_at_call 23; (with_reducible refine (FN.out).mono ?_); rintro e w2 ⟨rfl, hl2, hb2⟩)
    | (at_range; refine wpList_range_own _ rfl _ 50 rfl 3 9 lawI64 Tryd.underlying50 _ _ 3 _ rfl hl2 ?_; intro w3 hrg0 hg0 hs0)
    | go_in)
  go_frame
  have hm := HM.out
  have hb3 : Below w.heap.size w w3 := by rw [hm] at hb2; exact hb2.grown hg0 hb2.size (fun j hj => by cases hj)
  have hr : m < w2.heap.size := hl2.lt
  obtain ⟨r, hrr⟩ : ∃ r, r = w2.heap.size := ⟨_, rfl⟩
  have hwr : w.heap.size ≤ r := by omega
  rw [← hrr] at hrg0 hs0 hr ⊢
  clear hb2 hl2 hg0 FN hrr hm HM
  have HB := Lib.hid hb3
  clear hb3
  go_loopw [3, 4] (fun _ _ wr => ∃ (left : Lit → Bool) (cnt : Nat), wr.ranges Tryd.prog 3 (plainElem (H := Unit) Tryd.prog 9) m r 3 fmD left cnt ∧ FoSt s.data.toList left ∧ Below w.heap.size w wr) (fun _ _ wr => wr.rangeLeft m r)
  case atStart =>
    refine ⟨_, _, hrg0, fun f hf hl => ?_, HB.out⟩
    have := (fm_look f).1
    rw [hf] at this
    rw [this] at hl
    cases hl
  case round =>
    obtain ⟨left, cnt, hrg, hA, hnx⟩ := hrel
    go_wp2_with (first
      | (at_next; refine wpList_next_ranges_is _ rfl _ rfl 3 9 .i64 lawI64 Tryd.underlying3 Tryd.underlying9 m r 3 _ _ _ rfl hrg ?_ ?_)
      | go_in)
    · intro hc0 hl0
      have e := formN_miss fun f hf => hA f hf (hl0 _)
      have E := Lib.hid e
      clear e
      go_wp2
      go_ret
      exact ⟨by rw [E.out]; rfl, hnx⟩
    · intro x c w1 cnt1 hwx hwc hlx hat hrg1 hlt hg1 hs1 hen
      have hx : isFm x = true ∧ formL x = c.data.toList := by
        have h := (fm_look x).2 (.lit (.bool true))
        rw [hat] at h
        rcases isFm_cases x with ⟨q, -⟩ | ⟨q, -⟩
        · rw [q, if_pos rfl] at h
          simp only [DataW.lit.injEq, Lit.string.injEq] at h
          exact ⟨q, h.symm⟩
        · rw [q, if_neg (by decide)] at h
          cases h
      have hb1 := hnx.grown hg1 hnx.size (fun j hj => by cases hj; exact hwr)
      have HX := Lib.hid hx
      have HB1 := Lib.hid hb1
      clear hx hb1 hat hwx hwc
      by_cases hq : c = s
      · have q1 : (c.toList == s.toList) = true := by rw [hq]; exact beq_self_eq_true _
        have E : Hid (formN s.data.toList = x) := Lib.hid (formN_hit HX.out.1 (by rw [HX.out.2, hq]))
        clear hq
        go_wp2
        go_ret
        exact ⟨by rw [E.out]; rfl, HB1.out⟩
      · have q1 : (c.toList == s.toList) = false := by
          rw [beq_eq_false_iff_ne, Lib.toList_data, Lib.toList_data]
          intro e; exact hq (ByteArray.ext (Array.toList_inj.1 e))
        have HN : Hid (formL x ≠ s.data.toList) := Lib.hid fun e => hq (ByteArray.ext (Array.toList_inj.1 (HX.out.2.symm.trans e)))
        have HA := Lib.hid hA
        clear hq hA
        go_wp2
        go_roundw
        case rel =>
          refine ⟨_, cnt1, hrg1, fun f hf hl => ?_, HB1.out⟩
          cases e : left (.int .i64 f) with
          | false => exact HA.out f hf e
          | true =>
            have hl : (left (.int .i64 f) && !(Lit.int IntKind.i64 f).sameKey (.int .i64 x)) = false := hl
            rw [e, Bool.true_and] at hl
            have : (Lit.int IntKind.i64 f).sameKey (.int .i64 x) = true := by simpa using hl
            have : f = x := by simpa [Lit.sameKey] using this
            rw [this]; exact HN.out
        case measure => rw [hrg1.left_eq, hrg.left_eq]; exact hlt
end Go.Proofs.YtmlmdidaldcoiaaDoor
