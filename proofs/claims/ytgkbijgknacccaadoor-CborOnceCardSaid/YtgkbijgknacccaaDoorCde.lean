/- Decode of the second serialisation, the document's own: the node of some bytes, or the error. -/
import Derived.Test.YtgkbijgknacccaaDoorCva
import Derived.Test.YtgkbijgknacccaaDoorNawk
namespace Go.Proofs.YtgkbijgknacccaaDoor
open Go Go.ChangeShapes Go.WideShapes Go.ChangeAt Go.RowKit
set_option linter.unusedVariables false
set_option linter.unusedSimpArgs false

theorem cnumsB_down : ∀ {d e : Nat} {x : ND}, d ≤ e → numsB e x = true → numsB d x = true
  | 0, _, _, _, _ => rfl
  | d + 1, 0, _, h, _ => by omega
  | d + 1, e + 1, x, hd, hn => by
    rw [numsB_succ, Bool.and_eq_true, List.all_eq_true] at hn ⊢
    exact ⟨hn.1, fun y hy => cnumsB_down (by omega) (hn.2 y hy)⟩
/-- The node that some bytes are, or none. -/
def CDecIs (s : ByteArray) (x : ND) (er : Int) : Prop := (er = 0 ∧ validN 8 x = true ∧ numsB 8 x = true ∧ writeC 8 x = s.data.toList ∧ s.size ≤ 65536) ∨ (er = 4 ∧ x = nd0 ∧ ∀ y, validN 8 y = true → numsB 8 y = true → s.size ≤ 65536 → writeC 8 y ≠ s.data.toList)
def CDecPost (s : ByteArray) (w : World) (e : Ending) (w' : World) : Prop := ∃ (cs : List Value) (x : ND) (er : Int), e = .returned (.tuple #[.agg cs.toArray, .int .i64 er]) ∧ NodeIn 9 (fun b => w.heap.size ≤ b ∧ b < w'.heap.size) w' cs x ∧ Below w.heap.size w w' ∧ CDecIs s x er
/-- What is allowed is one answer. -/
theorem cdec_uniq {s : ByteArray} {x y : ND} {e f : Int} (h : CDecIs s x e) (g : CDecIs s y f) : x = y ∧ e = f := by
  rcases h with ⟨rfl, h1, h2, h3, h4⟩ | ⟨rfl, rfl, h1⟩ <;> rcases g with ⟨rfl, g1, g2, g3, g4⟩ | ⟨rfl, rfl, g1⟩
  · exact ⟨(writeC_app_inj 8 x y [] [] h1 h2 g1 g2 (by rw [h3, g3])).1, rfl⟩
  · exact absurd h3 (g1 x h1 h2 h4)
  · exact absurd g3 (h1 y g1 g2 g4)
  · exact ⟨rfl, rfl⟩
theorem cdec_none {s : ByteArray} {w wx : World} (hb : Below w.heap.size w wx) (hV : CDecIs s nd0 4) :
    CDecPost s w (.returned (.tuple #[.agg #[.int .i64 0, .bool false, .int .i64 0, .string ⟨#[]⟩, .slice none 0 0, .slice none 0 0], .int .i64 4])) (set6 wx w.heap.size (.int .i64 0) (.bool false) (.int .i64 0) (.string ⟨#[]⟩) (.slice none 0 0) (.slice none 0 0)) := by
  have hgs := grown_set6 wx w.heap.size (.int .i64 0) (.bool false) (.int .i64 0) (.string ⟨#[]⟩) (.slice none 0 0) (.slice none 0 0)
  exact ⟨[.int .i64 0, .bool false, .int .i64 0, .string ⟨#[]⟩, .slice none 0 0, .slice none 0 0], nd0, 4, rfl, (node_leaf _ _ 0 false 0 ⟨#[]⟩ (by decide)).deeper (by decide), hb.grown hgs hb.size (fun k hk => by cases hk; exact Nat.le_refl _), hV⟩
set_option maxHeartbeats 6400000 in
set_option maxRecDepth 100000 in
theorem crdec_any (s : ByteArray) (w : World) (hT : Utab w) (hw0 : 0 < w.heap.size) : Calls Tryd.prog 19 #[.string s] w (CDecPost s w) := by
  have b0 := (Below.refl w.heap.size w).alloc (o := .cells #[.int .i64 0, .bool false, .int .i64 0, .string ⟨#[]⟩, .slice none 0 0, .slice none 0 0] 26) (Nat.le_refl _)
  have hr0 := heap_alloc_new w (.cells #[.int .i64 0, .bool false, .int .i64 0, .string ⟨#[]⟩, .slice none 0 0, .slice none 0 0] 26)
  by_cases hl : 65536 < s.size
  · have hl' : (65536 : Int) < (s.size : Int) := by omega
    have HV : Hid (CDecIs s nd0 4) := Lib.hid (.inr ⟨rfl, rfl, fun y _ _ h => absurd h (by omega)⟩)
    have B0 := Lib.hid b0
    have HR := Lib.hid hr0
    clear hl b0 hr0
    go_enter Tryd.func19, Tryd.ntmps19
    go_upto_region 1 with fail
    generalize w.alloc (.cells #[.int .i64 0, .bool false, .int .i64 0, .string ⟨#[]⟩, .slice none 0 0, .slice none 0 0] 26) = w0 at B0 HR ⊢
    have f1 := free_six HR.out
    have cz1 := six_of HR.out
    go_wp2
    refine bodyPost_ret (v := .tuple #[.agg #[.int .i64 0, .bool false, .int .i64 0, .string ⟨#[]⟩, .slice none 0 0, .slice none 0 0], .int .i64 4]) ?_ ?_ ?_
    rotate_left
    · rfl
    · exact cdec_none B0.out HV.out
    · obtain ⟨q0, q1, q2, q3, q4, q5⟩ := six_of (six_put HR.out (.int .i64 0) (.bool false) (.int .i64 0) (.string ⟨#[]⟩) (.slice none 0 0) (.slice none 0 0))
      simp only [set6] at q0 q1 q2 q3 q4 q5
      simp [results, Tryd.results19, go_sem, q0, q1, q2, q3, q4, q5]
  · have hl' : ¬ (65536 : Int) < (s.size : Int) := by omega
    have hsl : s.data.toList.length = s.size := by rw [Array.length_toList]; rfl
    have HSL := Lib.hid hsl
    have HL := Lib.hid hl
    have HT := Lib.hid hT
    have hsi : (s.size : Int) ≤ 65536 := by omega
    clear hT hl hsl
    go_enter Tryd.func19, Tryd.ntmps19
    go_upto_region 1 with fail
    generalize w.alloc (.cells #[.int .i64 0, .bool false, .int .i64 0, .string ⟨#[]⟩, .slice none 0 0, .slice none 0 0] 26) = w0 at b0 hr0 ⊢
    have B0 := Lib.hid b0
    have HR := Lib.hid hr0
    have VC := cvalue_any 8 (by decide) s 0 w0 (by have := b0.size; omega) (Nat.zero_le _) (by have := HL.out; omega)
    rw [show ((8 : Nat) : Int) = 8 from rfl, show ((0 : Nat) : Int) = 0 from rfl] at VC
    have VV := Lib.hid VC
    clear b0 hr0 VC
    go_upto_region 4 with (go_at_call 32; (with_reducible refine (VV.out).mono ?_); rintro e5 w5 ⟨cs, x, q, rfl, hnode, hb5, hq5, hf5, hv5⟩; go_loud ((obtain ⟨a1, l1, c1, a2, l2, c2, hcs⟩ := hnode.slices); subst hcs))
    have b6 := (Below.refl w5.heap.size w5).alloc (o := .cells #[.int .i64 x.kind, .bool x.bool, .int .i64 x.num, .string x.text, .slice a1 l1 c1, .slice a2 l2 c2] 26) (Nat.le_refl _)
    have k6 := heap_alloc_new w5 (.cells #[.int .i64 x.kind, .bool x.bool, .int .i64 x.num, .string x.text, .slice a1 l1 c1, .slice a2 l2 c2] 26)
    have hnd6 := hnode.same fun b hb => b6.block b hb.2
    have hB5 := B0.out.trans (hb5.mono B0.out.size)
    have hB6 := hB5.trans (b6.mono hB5.size)
    have hr6 := (b6.block _ (by have := hb5.size; have := lt_of_block HR.out; omega)).trans ((hb5.block _ (lt_of_block HR.out)).trans HR.out)
    have hz5 : w.heap.size < w5.heap.size := by have := hb5.size; have := lt_of_block HR.out; omega
    generalize w5.alloc (.cells #[.int .i64 x.kind, .bool x.bool, .int .i64 x.num, .string x.text, .slice a1 l1 c1, .slice a2 l2 c2] 26) = w6 at b6 k6 hnd6 hB6 hr6 ⊢
    obtain ⟨g6, hg6⟩ : ∃ g, g = w5.heap.size := ⟨_, rfl⟩
    rw [← hg6] at k6 hz5 ⊢
    have HZ5 := Lib.hid (And.intro hz5 (And.intro hg6 b6.size))
    have HB6 := Lib.hid hB6
    have HR6 := Lib.hid hr6
    have HK6 := Lib.hid k6
    have HND := Lib.hid (And.intro hnd6 B0.out.size)
    have HQ := Lib.hid hq5
    have HF := Lib.hid hf5
    have hv8 : ∀ y, validN 8 y = true → numsB 8 y = true → writeC 8 y = s.data.toList → x = y ∧ (s.size : Int) ≤ q := fun y h1 h2 h3 => by
      obtain ⟨e1, e2, e3⟩ := hv5 y [] ⟨h1, h2, by rw [List.drop_zero, List.append_nil, h3]⟩
      refine ⟨e1, ?_⟩
      have := congrArg List.length e3
      rw [List.length_drop, HSL.out] at this
      simp at this
      omega
    have HV8 := Lib.hid hv8
    have hck := six_of k6
    have VA := Lib.hid (risvalid_any _ x w6 hnd6 (fun b hb => Nat.lt_of_lt_of_le hb.2 (by have := b6.size; omega)) hf5.1 (HT.out.below hB6))
    clear hg6 k6 hnd6 hB6 hr6 hv8 hv5 hnode hb5 hf5 hq5 hB5 VV b6 hz5
    by_cases hq : q = (s.size : Int)
    · subst hq
      have hqq : ((s.size : Int) != (s.size : Int)) = false := by simp
      cases hv : validN 8 x with
      | false =>
        rw [hv] at VA
        have HV : Hid (CDecIs s nd0 4) := Lib.hid (.inr ⟨rfl, rfl, fun y h1 h2 h3 h4 => by
          obtain ⟨rfl, -⟩ := HV8.out y h1 h2 h4
          rw [hv] at h1; cases h1⟩)
        clear hv
        go_upto_region 5 with (go_at_call 21; (with_reducible refine (VA.out).mono ?_); rintro e7 w7 ⟨rfl, hb7⟩)
        have hB7 := HB6.out.trans (hb7.mono HB6.out.size)
        have hr7 := (hb7.block _ (lt_of_block HR6.out)).trans HR6.out
        have f1 := free_six hr7
        have cz1 := six_of hr7
        go_wp2
        refine bodyPost_ret (v := .tuple #[.agg #[.int .i64 0, .bool false, .int .i64 0, .string ⟨#[]⟩, .slice none 0 0, .slice none 0 0], .int .i64 4]) ?_ ?_ ?_
        rotate_left
        · rfl
        · exact cdec_none hB7 HV.out
        · obtain ⟨q0, q1, q2, q3, q4, q5⟩ := six_of (six_put hr7 (.int .i64 0) (.bool false) (.int .i64 0) (.string ⟨#[]⟩) (.slice none 0 0) (.slice none 0 0))
          simp only [set6] at q0 q1 q2 q3 q4 q5
          simp [results, Tryd.results19, go_sem, q0, q1, q2, q3, q4, q5]
      | true =>
        rw [hv] at VA
        have hnu : numsB 8 x = true := cnumsB_down (by decide) HF.out.2
        have hcost : (writeC 8 x).length ≤ 35184372088832 := by
          have h1 := writeC_cost 8 x hv
          have h2 := costN_same (e := 8) (d := 9) (by decide) hv
          rcases HQ.out with h | ⟨-, -, h⟩
          · omega
          · have h : (costN (8 + 1) x : Int) + 8 ≤ 40 * ((s.size : Int) - 0) := h
            rw [show (8 : Nat) + 1 = 9 from rfl, h2] at h
            omega
        have WR := Lib.hid (fun wx (hb : Below w6.heap.size w6 wx) => rcwrite_any 8 9 _ _ x wx (HND.out.1.same fun b hb' => hb.block b (Nat.lt_of_lt_of_le hb'.2 (by have := HZ5.out; omega))) (fun b hb' => Nat.lt_of_lt_of_le hb'.2 (by have := HZ5.out; have := hb.size; omega)) hv hnu hcost)
        have CK := Lib.hid (fun wx (hb : Below w6.heap.size w6 wx) => six_of ((hb.block _ (lt_of_block HK6.out)).trans HK6.out))
        obtain ⟨t, ht⟩ : ∃ t : ByteArray, t = bC (writeC 8 x) := ⟨_, rfl⟩
        rw [← ht] at WR
        have htl : t.data.toList = writeC 8 x := by rw [ht, bC_data]
        have HTL := Lib.hid htl
        have HVN := Lib.hid (And.intro hv hnu)
        clear ht hv hnu hcost htl
        by_cases hts : t = s
        · have tts : (t.toList == s.toList) = true := str_beq hts
          have tts2 : (t.toList != s.toList) = false := by rw [bne, tts]; rfl
          have HV : Hid (CDecIs s x 0) := Lib.hid (.inl ⟨rfl, HVN.out.1, HVN.out.2, by rw [← HTL.out, hts], by have := HL.out; omega⟩)
          clear hts
          go_upto_region 6 with (first
            | (go_at_call 21; (with_reducible refine (VA.out).mono ?_); rintro e7 w7 ⟨rfl, hb7⟩; (have ck7 := CK.out _ hb7))
            | (go_at_call 29; (with_reducible refine (WR.out _ hb7).mono ?_); rintro e8 w8 ⟨rfl, hb8⟩))
          have hb68 := hb7.trans (hb8.mono hb7.size)
          have hB8 := HB6.out.trans (hb68.mono HB6.out.size)
          have hr8 := (hb68.block _ (lt_of_block HR6.out)).trans HR6.out
          have ck8 := CK.out _ hb68
          have HR8 := Lib.hid hr8
          have HB8 := Lib.hid hB8
          have HB68 := Lib.hid hb68
          have f1 := free_six hr8
          have cz1 := six_of hr8
          clear hb68 hB8 hr8 hb7 hb8 ck7 hck
          go_wp2
          refine bodyPost_ret (v := .tuple #[.agg #[.int .i64 x.kind, .bool x.bool, .int .i64 x.num, .string x.text, .slice a1 l1 c1, .slice a2 l2 c2], .int .i64 0]) ?_ ?_ ?_
          rotate_left
          · rfl
          · have hgs := grown_set6 w8 w.heap.size (.int .i64 x.kind) (.bool x.bool) (.int .i64 x.num) (.string x.text) (.slice a1 l1 c1) (.slice a2 l2 c2)
            refine ⟨[.int .i64 x.kind, .bool x.bool, .int .i64 x.num, .string x.text, .slice a1 l1 c1, .slice a2 l2 c2], x, 0, rfl, ?_, HB8.out.grown hgs HB8.out.size (fun k hk => by cases hk; exact Nat.le_refl _), HV.out⟩
            have hz := HZ5.out
            have hzb := HB68.out.size
            have hr := lt_of_block HR.out
            exact ((HND.out.1.same fun b hb => HB68.out.block b (by omega)).same fun b hb => hgs.block b (by omega) (by intro e; have := Option.some.inj e; omega)).mono fun b hb => ⟨by have := HND.out.2; omega, Nat.lt_of_lt_of_le (by omega) hgs.size⟩
          · obtain ⟨q0, q1, q2, q3, q4, q5⟩ := six_of (six_put HR8.out (.int .i64 x.kind) (.bool x.bool) (.int .i64 x.num) (.string x.text) (.slice a1 l1 c1) (.slice a2 l2 c2))
            simp only [set6] at q0 q1 q2 q3 q4 q5
            simp [results, Tryd.results19, go_sem, q0, q1, q2, q3, q4, q5]
        · have tts : (t.toList == s.toList) = false := str_bne hts
          have tts2 : (t.toList != s.toList) = true := by rw [bne, tts]; rfl
          have HV : Hid (CDecIs s nd0 4) := Lib.hid (.inr ⟨rfl, rfl, fun y h1 h2 h3 h4 => by
            obtain ⟨rfl, -⟩ := HV8.out y h1 h2 h4
            apply hts
            have e1 := HTL.out.trans h4
            exact data_inj e1⟩)
          clear hts
          go_upto_region 5 with (first
            | (go_at_call 21; (with_reducible refine (VA.out).mono ?_); rintro e7 w7 ⟨rfl, hb7⟩; (have ck7 := CK.out _ hb7))
            | (go_at_call 29; (with_reducible refine (WR.out _ hb7).mono ?_); rintro e8 w8 ⟨rfl, hb8⟩))
          have hb68 := hb7.trans (hb8.mono hb7.size)
          have hB8 := HB6.out.trans (hb68.mono HB6.out.size)
          have hr8 := (hb68.block _ (lt_of_block HR6.out)).trans HR6.out
          have f1 := free_six hr8
          have cz1 := six_of hr8
          go_wp2
          refine bodyPost_ret (v := .tuple #[.agg #[.int .i64 0, .bool false, .int .i64 0, .string ⟨#[]⟩, .slice none 0 0, .slice none 0 0], .int .i64 4]) ?_ ?_ ?_
          rotate_left
          · rfl
          · exact cdec_none hB8 HV.out
          · obtain ⟨q0, q1, q2, q3, q4, q5⟩ := six_of (six_put hr8 (.int .i64 0) (.bool false) (.int .i64 0) (.string ⟨#[]⟩) (.slice none 0 0) (.slice none 0 0))
            simp only [set6] at q0 q1 q2 q3 q4 q5
            simp [results, Tryd.results19, go_sem, q0, q1, q2, q3, q4, q5]
    · have hqq : (q != (s.size : Int)) = true := by simp [hq]
      have hqq2 : (q == (s.size : Int)) = false := by simp [hq]
      have HV : Hid (CDecIs s nd0 4) := Lib.hid (.inr ⟨rfl, rfl, fun y h1 h2 h3 h4 => by
        obtain ⟨-, h5⟩ := HV8.out y h1 h2 h4
        rcases HQ.out with h | ⟨-, h, -⟩
        · omega
        · exact hq (by omega)⟩)
      clear hq
      have f1 := free_six HR6.out
      have cz1 := six_of HR6.out
      go_wp2
      refine bodyPost_ret (v := .tuple #[.agg #[.int .i64 0, .bool false, .int .i64 0, .string ⟨#[]⟩, .slice none 0 0, .slice none 0 0], .int .i64 4]) ?_ ?_ ?_
      rotate_left
      · rfl
      · exact cdec_none HB6.out HV.out
      · obtain ⟨q0, q1, q2, q3, q4, q5⟩ := six_of (six_put HR6.out (.int .i64 0) (.bool false) (.int .i64 0) (.string ⟨#[]⟩) (.slice none 0 0) (.slice none 0 0))
        simp only [set6] at q0 q1 q2 q3 q4 q5
        simp [results, Tryd.results19, go_sem, q0, q1, q2, q3, q4, q5]
end Go.Proofs.YtgkbijgknacccaaDoor
