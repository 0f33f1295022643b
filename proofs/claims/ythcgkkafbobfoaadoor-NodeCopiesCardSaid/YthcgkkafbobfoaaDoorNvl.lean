/- Valid: the program's own functions. -/
import Derived.Test.YthcgkkafbobfoaaDoorNonl
import Derived.Test.YthcgkkafbobfoaaDoorNutf
import Derived.Test.YthcgkkafbobfoaaDoorBset
namespace Go.Proofs.YthcgkkafbobfoaaDoor
open Go Go.Maps Go.ChangeShapes Go.WideShapes Go.ChangeAt Go.RowKit
set_option linter.unusedVariables false
set_option linter.unusedSimpArgs false

theorem Utab.below {w w' : World} (h : Utab w) (hb : Below w.heap.size w w') : Utab w' := Utf8Tabs_below h hb
set_option maxRecDepth 100000 in
theorem vtext_any (s : ByteArray) (w : World) (hs : s.size ≤ maxLen - 2) (hT : Utab w) : Calls Tryd.prog 37 #[.string s] w fun e w' => e = .returned (.bool (textOk s)) ∧ Below w.heap.size w w' := by
  unfold maxLen at hs
  have V := Lib.hid (valid_any s w (by unfold maxLen; omega) hT)
  by_cases h : s.size ≤ 65536
  · have h1 : (s.size : Int) ≤ 65536 := by omega
    have e : textOk s = Lib.validD s.data.toList := by unfold textOk; rw [decide_eq_true h]; rfl
    rw [e]
    clear e hT
    generalize Lib.validD s.data.toList = b at V ⊢
    go_enter Tryd.func37, Tryd.ntmps37
    go_wp2_with (go_at_call 41; (with_reducible refine (V.out).mono ?_); rintro e w1 ⟨rfl, hb⟩)
    go_ret
    exact ⟨rfl, hb⟩
  · have h1 : ¬ (s.size : Int) ≤ 65536 := by omega
    have e : textOk s = false := by unfold textOk; rw [decide_eq_false h]; rfl
    rw [e]
    clear e hT
    go_enter Tryd.func37, Tryd.ntmps37
    go_wp2
    go_ret
    exact ⟨rfl, Below.refl _ _⟩
/-- The names of a map. -/
def namesB (ns : List ByteArray) (l2 : Nat) : Bool := decide (ns.length = l2) && (ns.all textOk && decide ns.Nodup)
theorem StrsIn.at {S : Nat → Prop} {w : World} {ao : Option Addr} {l cap : Nat} {ns : List ByteArray} (h : StrsIn S w (.slice ao l cap) ns) {j : Nat} (hj : j < ns.length) : l = ns.length ∧ l ≤ cap ∧ cap ≤ maxLen ∧ ∃ b off, ao = some ⟨b, off, none⟩ ∧ S b ∧ w.cell? ⟨b, off + j, none⟩ = some (.string ns[j]) ∧ ns[j].size ≤ maxLen - 2 := by
  obtain ⟨ao', cap', e, h1, h2, h3⟩ := h
  cases e
  obtain ⟨b, off, rfl, hS, hc, hr⟩ := h3 j _ (List.getElem?_eq_getElem hj)
  exact ⟨rfl, h1, h2, b, off, rfl, hS, hc, hr⟩
theorem lawStrN : Keyed Tryd.prog 9 := string_keyed Tryd.underlying9
theorem zeroBool (w : World) : (zeroValue 4).run Tryd.prog w = .ok (.bool false) w := by kernel_rfl
set_option maxHeartbeats 1600000 in
set_option maxRecDepth 100000 in
theorem vnames_any {S : Nat → Prop} (k : Int) (b : Bool) (n : Int) (t : ByteArray) (a1 a2 : Option Addr) (l1 c1 l2 c2 : Nat) (ns : List ByteArray) (w : World) (h : StrsIn S w (.slice a1 l1 c1) ns) (hS : ∀ b, S b → b < w.heap.size) (hl : ns.length ≤ 1000000) (hl2 : l2 ≤ maxLen) (hT : Utab w) :
    Calls Tryd.prog 38 #[.agg #[.int .i64 k, .bool b, .int .i64 n, .string t, .slice a1 l1 c1, .slice a2 l2 c2]] w fun e w' => e = .returned (.bool (namesB ns l2)) ∧ Below w.heap.size w w' := by
  obtain ⟨ao, cap, e, hc1, hc2, hc3⟩ := id h
  cases e
  unfold maxLen at hc2 hl2
  have H := Lib.hid h
  have HS := Lib.hid hS
  have HT := Lib.hid hT
  have hmm := @run_makeMap Tryd.prog
  clear h hS hT hc3
  by_cases hlen : ns.length = l2
  · have hlen' : ((ns.length : Int) != (l2 : Int)) = false := by simp [hlen]
    have HLEN := Lib.hid hlen
    have B2 : Below w.heap.size w ((w.alloc (.cells #[.int .i64 k, .bool b, .int .i64 n, .string t, .slice a1 ns.length c1, .slice a2 l2 c2] 26)).alloc (.map #[] 0)) := ((Below.refl _ _).alloc (Nat.le_refl _) _).alloc (by simp) _
    have hset : OwnsSet Tryd.prog 9 4 ((w.alloc (.cells #[.int .i64 k, .bool b, .int .i64 n, .string t, .slice a1 ns.length c1, .slice a2 l2 c2] 26)).alloc (.map #[] 0)) (w.heap.size + 1) [] := by
      have := OwnsSet.made (w.alloc (.cells #[.int .i64 k, .bool b, .int .i64 n, .string t, .slice a1 ns.length c1, .slice a2 l2 c2] 26)) Tryd.prog 9 4
      rw [show (w.alloc (.cells #[.int .i64 k, .bool b, .int .i64 n, .string t, .slice a1 ns.length c1, .slice a2 l2 c2] 26)).heap.size = w.heap.size + 1 by simp] at this
      exact this
    have HSET := Lib.hid hset
    clear hset hlen
    go_enter Tryd.func38, Tryd.ntmps38
    go_wp2
    go_loopw [5, 17] (fun s5 i wr => ∃ j : Nat, i = .int .i64 j ∧ j ≤ ns.length ∧ OwnsSet Tryd.prog 9 4 wr (w.heap.size + 1) (ns.take j).reverse ∧ (∀ s, s ∈ ns.take j → textOk s = true) ∧ (ns.take j).Nodup ∧ Below w.heap.size w wr) (fun _ i _ => ns.length - (intOf i).toNat)
    case atStart => exact ⟨0, rfl, Nat.zero_le _, HSET.out, (fun s h => by simp at h), by simp, B2⟩
    case round =>
      obtain ⟨j, rfl, hj, hset, hok, hnd, hB⟩ := hrel
      clear HSET B2
      by_cases hlt : j < ns.length
      · have hlt' : (j : Int) < (ns.length : Int) := by omega
        have hj0 : (0 : Int) ≤ (j : Int) := by omega
        obtain ⟨-, -, -, bb, off, rfl, hSb, hc, hs⟩ := H.out.at hlt
        have hcw := (hB.cell (p := ⟨bb, off + j, none⟩) (HS.out bb hSb)).trans hc
        obtain ⟨s, hse⟩ : ∃ s, s = ns[j] := ⟨_, rfl⟩
        rw [← hse] at hc hs hcw
        have hsj : ns[j]? = some s := by rw [List.getElem?_eq_getElem hlt, hse]
        have htk : ns.take (j + 1) = ns.take j ++ [s] := by rw [List.take_add_one, hsj]; rfl
        have V := Lib.hid (vtext_any s wr hs (HT.out.below hB))
        have hkey := WideMaps.keyOf_string_mk (P := Tryd.prog) (k := 9) (s := s) Tryd.underlying9 (by unfold maxLen at hs ⊢; omega)
        have HTK := Lib.hid htk
        have HSJ := Lib.hid hsj
        have HOK := Lib.hid hok
        have HND := Lib.hid hnd
        have HST := Lib.hid hset
        clear hc hs hse hsj htk hok hnd hset
        by_cases hto : textOk s = true
        · rw [hto] at V
          by_cases hin : s ∈ ns.take j
          · have hnn : namesB ns l2 = false := by
              have : ¬ ns.Nodup := fun hn => by
                rw [List.nodup_iff_pairwise_ne, List.pairwise_iff_getElem] at hn
                obtain ⟨q, hq, e⟩ := List.getElem_of_mem hin
                rw [List.length_take] at hq
                rw [List.getElem_take] at e
                refine hn q j (by omega) hlt (by omega) ?_
                rw [e]
                have := HSJ.out
                rw [List.getElem?_eq_getElem hlt] at this
                exact (Option.some.inj this).symm
              unfold namesB
              rw [decide_eq_false this, Bool.and_false, Bool.and_false]
            have HNN := Lib.hid hnn
            have L := fun wx (h : OwnsSet Tryd.prog 9 4 wx (w.heap.size + 1) (ns.take j).reverse) => h.look (t := 66) lawStrN Tryd.underlying66 Tryd.underlying4 (zeroBool wx) s hkey
            rw [(inB_iff s _).2 (List.mem_reverse.2 hin)] at L
            have LL := Lib.hid L
            clear L hnn hin hkey
            go_wp2_with (go_at_call 37; (with_reducible refine (V.out).mono ?_); rintro e w1 ⟨rfl, hb1⟩; (have hlook := LL.out w1 (HST.out.below hb1)); (have hB1 := hB.trans (hb1.mono hB.size)); clear hb1 hB)
            go_ret
            exact ⟨by rw [HNN.out]; rfl, hB1⟩
          · have L := fun wx (h : OwnsSet Tryd.prog 9 4 wx (w.heap.size + 1) (ns.take j).reverse) => h.look (t := 66) lawStrN Tryd.underlying66 Tryd.underlying4 (zeroBool wx) s hkey
            have hinB : inB s (ns.take j).reverse = false := by
              cases hq : inB s (ns.take j).reverse with
              | false => rfl
              | true => exact absurd (List.mem_reverse.1 ((inB_iff s _).1 hq)) hin
            rw [hinB] at L
            have LL := Lib.hid L
            have HIN := Lib.hid hin
            have HKEY := Lib.hid hkey
            have hlr : (ns.take j).reverse.length < 1000000 := by rw [List.length_reverse, List.length_take]; omega
            have HTO := Lib.hid hto
            clear L hin hkey hinB hto
            go_wp2_with (first
              | (go_at_call 37; (with_reducible refine (V.out).mono ?_); rintro e w1 ⟨rfl, hb1⟩; (have hlook := LL.out w1 (HST.out.below hb1)); (have hB1 := hB.trans (hb1.mono hB.size)); (have hset1 := HST.out.below hb1); clear hb1 hB)
              | (at_mapUpdate; refine wpList_mapUpdate_own _ rfl _ _ _ 66 rfl 9 4 lawStrN Tryd.underlying66 _ (w.heap.size + 1) (ns.take j).reverse.length _ rfl hset1 (by unfold maxLen; omega) _ _ _ rfl rfl HKEY.out _ [] (plainElem_bool Tryd.underlying4 true) ?_; intro w2 hown2 hgrow2))
            have hset2 : OwnsSet Tryd.prog 9 4 w2 (w.heap.size + 1) (s :: (ns.take j).reverse) := OwnsSet.put hown2
            have hB2 := gbelow hB1 hgrow2 hB1.size (by omega)
            clear hown2 hgrow2 hB1 hset1 hlook
            go_wp2
            go_roundw
            case rel =>
              refine ⟨j + 1, by go_num, by omega, ?_, ?_, ?_, hB2⟩
              · rw [HTK.out, List.reverse_append]; exact hset2
              · intro y hy
                rw [HTK.out] at hy
                rcases List.mem_append.1 hy with hy | hy
                · exact HOK.out y hy
                · cases List.mem_singleton.1 hy; exact HTO.out
              · rw [HTK.out, List.nodup_append]
                refine ⟨HND.out, by simp, fun a ha b hb => ?_⟩
                cases List.mem_singleton.1 hb
                intro e
                subst e
                exact HIN.out ha
            case measure => simp [intOf]; omega
        · have hnn : namesB ns l2 = false := by
            have : ns.all textOk = false := by
              cases hq : ns.all textOk with
              | false => rfl
              | true => exact absurd (List.all_eq_true.1 hq s (List.mem_of_getElem? HSJ.out)) hto
            unfold namesB
            rw [this, Bool.false_and, Bool.and_false]
          have HNN := Lib.hid hnn
          have hto' : textOk s = false := by simpa using hto
          rw [hto'] at V
          clear hnn hto hto' hkey
          go_wp2_with (go_at_call 37; (with_reducible refine (V.out).mono ?_); rintro e w1 ⟨rfl, hb1⟩; (have hB1 := hB.trans (hb1.mono hB.size)); clear hb1 hB)
          go_ret
          exact ⟨by rw [HNN.out]; rfl, hB1⟩
      · have hlt' : ¬ (j : Int) < (ns.length : Int) := by omega
        have hjl : ns.take j = ns := List.take_of_length_le (by omega)
        have hnn : namesB ns l2 = true := by
          rw [hjl] at hok hnd
          unfold namesB
          rw [decide_eq_true HLEN.out, List.all_eq_true.2 hok, decide_eq_true hnd]
          rfl
        have HNN := Lib.hid hnn
        clear hnn hjl hset hok hnd
        go_wp2
        go_ret
        exact ⟨by rw [HNN.out]; rfl, hB⟩
  · have hlen' : ((ns.length : Int) != (l2 : Int)) = true := by simp; omega
    have e : namesB ns l2 = false := by unfold namesB; rw [decide_eq_false hlen]; rfl
    rw [e]
    clear e hlen
    go_enter Tryd.func38, Tryd.ntmps38
    go_wp2
    go_ret
    exact ⟨rfl, (Below.refl _ _).alloc (Nat.le_refl _) _⟩
end Go.Proofs.YthcgkkafbobfoaaDoor
