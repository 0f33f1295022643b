/- Same: the program's own. -/
import Derived.Test.YthcgkkafbobfoaaDoorNcop
import Derived.BigQuiet
import Derived.Deep.QuietTactic
namespace Go.Proofs.YthcgkkafbobfoaaDoor
open Go Go.ChangeShapes Go.WideShapes Go.ChangeAt Go.RowKit
set_option linter.unusedVariables false
set_option linter.unusedSimpArgs false

/-- Some bool that says whether p. -/
def BoolFor (p : Prop) (w : World) (e : Ending) (w' : World) : Prop := ∃ b : Bool, e = .returned (.bool b) ∧ (b = true ↔ p) ∧ Below w.heap.size w w'
theorem StrsIn.get {S : Nat → Prop} {w : World} {ao : Option Addr} {l cap : Nat} {ns : List ByteArray} (h : StrsIn S w (.slice ao l cap) ns) {j : Nat} {s : ByteArray} (hj : ns[j]? = some s) : ∃ b off, ao = some ⟨b, off, none⟩ ∧ S b ∧ w.cell? ⟨b, off + j, none⟩ = some (.string s) := by
  obtain ⟨ao', cap', e, h1, h2, h3⟩ := h
  cases e
  obtain ⟨b, off, e, hS, hc, _⟩ := h3 j s hj
  exact ⟨b, off, e, hS, hc⟩
theorem str_beq {a b : ByteArray} (h : a = b) : (a.toList == b.toList) = true := by rw [h]; exact beq_self_eq_true _
theorem str_bne {a b : ByteArray} (h : a ≠ b) : (a.toList == b.toList) = false := by
  rw [beq_eq_false_iff_ne]
  intro e
  rw [ByteArray.toList_eq, ByteArray.toList_eq] at e
  exact h (ByteArray.ext (Array.toList_inj.1 e))
set_option maxHeartbeats 1600000 in
set_option maxRecDepth 100000 in
theorem eqstrs_any {S S' : Nat → Prop} (v v' : Value) (ns ms : List ByteArray) (w : World) (h : StrsIn S w v ns) (h' : StrsIn S' w v' ms) (hS : ∀ b, S b → b < w.heap.size) (hS' : ∀ b, S' b → b < w.heap.size) : Calls Tryd.prog 34 #[v, v'] w (BoolFor (ns = ms) w) := by
  obtain ⟨a1, c1, e1, p1, p2, -⟩ := id h
  obtain ⟨a2, c2, e2, q1, q2, -⟩ := id h'
  subst e1
  subst e2
  unfold maxLen at p2 q2
  have H := Lib.hid h
  have H' := Lib.hid h'
  have HS := Lib.hid hS
  have HS' := Lib.hid hS'
  clear h h' hS hS'
  by_cases hlen : ns.length = ms.length
  · have hlen' : ((ns.length : Int) != (ms.length : Int)) = false := by simp [hlen]
    have HLEN := Lib.hid hlen
    clear hlen
    go_enter Tryd.func34, Tryd.ntmps34
    go_wp2
    go_loopw [5, 13] (fun i5 i wr => ∃ j : Nat, i = .int .i64 j ∧ j ≤ ns.length ∧ ns.take j = ms.take j ∧ Below w.heap.size w wr) (fun _ i _ => ns.length - (intOf i).toNat)
    case atStart => exact ⟨0, rfl, Nat.zero_le _, by simp, Below.refl _ _⟩
    case round =>
      obtain ⟨j, rfl, hj, heq, hB⟩ := hrel
      by_cases hlt : j < ns.length
      · have hlt' : (j : Int) < (ns.length : Int) := by omega
        have hj0 : (0 : Int) ≤ (j : Int) := by omega
        have hlt2' : (j : Int) < (ms.length : Int) := by have := HLEN.out; omega
        obtain ⟨s, hs⟩ : ∃ s, ns[j]? = some s := ⟨_, List.getElem?_eq_getElem hlt⟩
        obtain ⟨t, ht⟩ : ∃ t, ms[j]? = some t := ⟨_, List.getElem?_eq_getElem (show j < ms.length by omega)⟩
        obtain ⟨b1, o1, rfl, hb1, k1⟩ := H.out.get hs
        obtain ⟨b2, o2, rfl, hb2, k2⟩ := H'.out.get ht
        have r1 := (hB.cell (p := ⟨b1, o1 + j, none⟩) (HS.out b1 hb1)).trans k1
        have r2 := (hB.cell (p := ⟨b2, o2 + j, none⟩) (HS'.out b2 hb2)).trans k2
        have HQ := Lib.hid heq
        have HA := Lib.hid hs
        have HT := Lib.hid ht
        clear k1 k2 hs ht heq
        by_cases hst : s = t
        · have hx : (s.toList == t.toList) = true := str_beq hst
          have hx2 : (s.toList != t.toList) = false := by simp [bne, hx]
          have HST := Lib.hid hst
          clear hst
          go_wp2
          go_quiet (fail)
          go_wp2
          go_roundw
          case rel => exact ⟨j + 1, by go_num, by omega, by rw [List.take_add_one, List.take_add_one, HA.out, HT.out, HQ.out, HST.out], bdrewN hB _⟩
          case measure => simp [intOf]; omega
        · have hx : (s.toList == t.toList) = false := str_bne hst
          have hx2 : (s.toList != t.toList) = true := by simp [bne, hx]
          have HST := Lib.hid hst
          clear hst
          go_wp2
          go_quiet (fail)
          go_wp2
          go_ret
          refine ⟨false, rfl, ⟨fun e => (by cases e), fun e => ?_⟩, bdrewN hB _⟩
          have h1 := HA.out
          rw [e, HT.out] at h1
          exact absurd (Option.some.inj h1).symm HST.out
      · have hlt' : ¬ (j : Int) < (ns.length : Int) := by omega
        have HQ := Lib.hid heq
        clear heq
        go_wp2
        go_ret
        refine ⟨true, rfl, ⟨fun _ => ?_, fun _ => rfl⟩, hB⟩
        have := HQ.out
        have hl := HLEN.out
        rwa [List.take_of_length_le (by omega), List.take_of_length_le (by omega)] at this
  · have hlen' : ((ns.length : Int) != (ms.length : Int)) = true := by simp; omega
    have HL := Lib.hid hlen
    clear hlen
    go_enter Tryd.func34, Tryd.ntmps34
    go_wp2
    go_ret
    exact ⟨false, rfl, ⟨fun e => (by cases e), fun e => absurd (by rw [e]) HL.out⟩, Below.refl _ _⟩
/-- What is asked of Same where the first node is at most d deep. -/
def SameAt (d : Nat) : Prop := ∀ (d' : Nat) (S S' : Nat → Prop) (cs cs' : List Value) (x y : ND) (w : World), NodeIn d S w cs x → NodeIn d' S' w cs' y → (∀ b, S b → b < w.heap.size) → (∀ b, S' b → b < w.heap.size) → Calls Tryd.prog 17 #[.agg cs.toArray, .agg cs'.toArray] w (BoolFor (x = y) w)
set_option maxHeartbeats 1600000 in
set_option maxRecDepth 100000 in
theorem eqitems_any {d d' : Nat} (HV : SameAt d) {S S' : Nat → Prop} (v v' : Value) (ns ms : List ND) (w : World) (h : NodesIn (NodeIn d S w) S w v ns) (h' : NodesIn (NodeIn d' S' w) S' w v' ms) (hS : ∀ b, S b → b < w.heap.size) (hS' : ∀ b, S' b → b < w.heap.size) :
    Calls Tryd.prog 35 #[v, v', .func (.func 17) #[] #[]] w (BoolFor (ns = ms) w) := by
  obtain ⟨a1, c1, e1, p1, p2, -⟩ := id h
  obtain ⟨a2, c2, e2, q1, q2, -⟩ := id h'
  subst e1
  subst e2
  unfold maxLen at p2 q2
  have H := Lib.hid h
  have H' := Lib.hid h'
  have HS := Lib.hid hS
  have HS' := Lib.hid hS'
  have HVV := Lib.hid HV
  clear h h' hS hS' HV
  by_cases hlen : ns.length = ms.length
  · have hlen' : ((ns.length : Int) != (ms.length : Int)) = false := by simp [hlen]
    have HLEN := Lib.hid hlen
    clear hlen
    go_enter Tryd.func35, Tryd.ntmps35
    go_wp2
    go_loopw [7, 8, 9, 17] (fun i7 i8 i9 i wr => ∃ j : Nat, i = .int .i64 j ∧ j ≤ ns.length ∧ ns.take j = ms.take j ∧ Below w.heap.size w wr) (fun _ _ _ i _ => ns.length - (intOf i).toNat)
    case atStart => exact ⟨0, rfl, Nat.zero_le _, by simp, Below.refl _ _⟩
    case round =>
      obtain ⟨j, rfl, hj, heq, hB⟩ := hrel
      by_cases hlt : j < ns.length
      · have hlt' : (j : Int) < (ns.length : Int) := by omega
        have hj0 : (0 : Int) ≤ (j : Int) := by omega
        have hltm : j < ms.length := by have := HLEN.out; omega
        have hlt2' : (j : Int) < (ms.length : Int) := by omega
        obtain ⟨-, -, -, b, off, x, a3, l3, c3, a4, l4, c4, rfl, hSb, hx, hnd, k0, k1, k2, k3, k4, k5⟩ := H.out.at hlt
        obtain ⟨-, -, -, b', off', y, a5, l5, c5, a6, l6, c6, rfl, hSb', hy, hnd', m0, m1, m2, m3, m4, m5⟩ := H'.out.at hltm
        have hbw := HS.out b hSb
        have hbw' := HS'.out b' hSb'
        have q0 := (hB.cell (p := ⟨b, off + j * 6, none⟩) hbw).trans k0
        have q1 := (hB.cell (p := ⟨b, off + j * 6 + 1, none⟩) hbw).trans k1
        have q2 := (hB.cell (p := ⟨b, off + j * 6 + 2, none⟩) hbw).trans k2
        have q3 := (hB.cell (p := ⟨b, off + j * 6 + 3, none⟩) hbw).trans k3
        have q4 := (hB.cell (p := ⟨b, off + j * 6 + 4, none⟩) hbw).trans k4
        have q5 := (hB.cell (p := ⟨b, off + j * 6 + 5, none⟩) hbw).trans k5
        have b1 := hB.trans (((Below.refl wr.heap.size wr).alloc (o := .cells #[.int .i64 x.kind, .bool x.bool, .int .i64 x.num, .string x.text, .slice a3 l3 c3, .slice a4 l4 c4] 26) (Nat.le_refl _)).mono hB.size)
        have r0 := (b1.cell (p := ⟨b', off' + j * 6, none⟩) hbw').trans m0
        have r1 := (b1.cell (p := ⟨b', off' + j * 6 + 1, none⟩) hbw').trans m1
        have r2 := (b1.cell (p := ⟨b', off' + j * 6 + 2, none⟩) hbw').trans m2
        have r3 := (b1.cell (p := ⟨b', off' + j * 6 + 3, none⟩) hbw').trans m3
        have r4 := (b1.cell (p := ⟨b', off' + j * 6 + 4, none⟩) hbw').trans m4
        have r5 := (b1.cell (p := ⟨b', off' + j * 6 + 5, none⟩) hbw').trans m5
        have b2 := b1.alloc (o := .cells #[.int .i64 y.kind, .bool y.bool, .int .i64 y.num, .string y.text, .slice a5 l5 c5, .slice a6 l6 c6] 26) b1.size
        have V := Lib.hid (HVV.out d' S S' _ _ x y ((wr.alloc (.cells #[.int .i64 x.kind, .bool x.bool, .int .i64 x.num, .string x.text, .slice a3 l3 c3, .slice a4 l4 c4] 26)).alloc (.cells #[.int .i64 y.kind, .bool y.bool, .int .i64 y.num, .string y.text, .slice a5 l5 c5, .slice a6 l6 c6] 26)) (hnd.same fun b hb => b2.block b (HS.out b hb)) (hnd'.same fun b hb => b2.block b (HS'.out b hb)) (fun b hb => Nat.lt_of_lt_of_le (HS.out b hb) b2.size) (fun b hb => Nat.lt_of_lt_of_le (HS'.out b hb) b2.size))
        clear k0 k1 k2 k3 k4 k5 m0 m1 m2 m3 m4 m5 hnd hnd' b1
        have HQ := Lib.hid heq
        have HX := Lib.hid hx
        have HY := Lib.hid hy
        have B2 := Lib.hid b2
        clear hx hy heq b2 hB
        go_upto_if 30 with (go_at_call 17; (with_reducible refine (V.out).mono ?_); rintro e w1 ⟨bb, rfl, hbb, hb1⟩)
        have hB1 := B2.out.trans (hb1.mono B2.out.size)
        cases bb with
        | true =>
          have hxy : x = y := hbb.1 rfl
          have HXY := Lib.hid hxy
          clear hbb hxy hb1 q0 q1 q2 q3 q4 q5 r0 r1 r2 r3 r4 r5
          go_wp2
          go_roundw
          case rel => exact ⟨j + 1, by go_num, by omega, by rw [List.take_add_one, List.take_add_one, HX.out, HY.out, HQ.out, HXY.out], hB1⟩
          case measure => simp [intOf]; omega
        | false =>
          have hxy : x ≠ y := fun e => by have := hbb.2 e; cases this
          have HXY := Lib.hid hxy
          clear hbb hxy hb1 q0 q1 q2 q3 q4 q5 r0 r1 r2 r3 r4 r5
          go_wp2
          go_ret
          refine ⟨false, rfl, ⟨fun e => (by cases e), fun e => ?_⟩, hB1⟩
          have h1 := HX.out
          rw [e, HY.out] at h1
          exact absurd (Option.some.inj h1).symm HXY.out
      · have hlt' : ¬ (j : Int) < (ns.length : Int) := by omega
        have HQ := Lib.hid heq
        clear heq
        go_wp2
        go_ret
        refine ⟨true, rfl, ⟨fun _ => ?_, fun _ => rfl⟩, hB⟩
        have := HQ.out
        have hl := HLEN.out
        rwa [List.take_of_length_le (by omega), List.take_of_length_le (by omega)] at this
  · have hlen' : ((ns.length : Int) != (ms.length : Int)) = true := by simp; omega
    have HL := Lib.hid hlen
    clear hlen
    go_enter Tryd.func35, Tryd.ntmps35
    go_wp2
    go_ret
    exact ⟨false, rfl, ⟨fun e => (by cases e), fun e => absurd (by rw [e]) HL.out⟩, Below.refl _ _⟩
theorem nd_eq (x y : ND) : x = y ↔ x.kind = y.kind ∧ x.bool = y.bool ∧ x.num = y.num ∧ x.text = y.text ∧ x.names = y.names ∧ x.items = y.items := by
  obtain ⟨k, b, n, t, ns, its⟩ := x
  obtain ⟨k', b', n', t', ns', its'⟩ := y
  simp [ND.kind, ND.bool, ND.num, ND.text, ND.names, ND.items]
set_option maxHeartbeats 3200000 in
set_option maxRecDepth 100000 in
theorem same_step {d : Nat} (HV : SameAt d) : SameAt (d + 1) := by
  intro d' S S' cs cs' x y w h h' hS hS'
  obtain ⟨a3, l3, c3, a4, l4, c4, rfl⟩ := h.slices
  obtain ⟨a5, l5, c5, a6, l6, c6, rfl⟩ := h'.slices
  cases d' with
  | zero => exact h'.elim
  | succ d' =>
  obtain ⟨vn, vi, e, ht, hns, his⟩ := h
  simp only [List.cons.injEq, and_true, true_and] at e
  obtain ⟨rfl, rfl⟩ := e
  obtain ⟨vn', vi', e, ht', hns', his'⟩ := h'
  simp only [List.cons.injEq, and_true, true_and] at e
  obtain ⟨rfl, rfl⟩ := e
  have b2 : Below w.heap.size w ((w.alloc (.cells #[.int .i64 x.kind, .bool x.bool, .int .i64 x.num, .string x.text, .slice a3 l3 c3, .slice a4 l4 c4] 26)).alloc (.cells #[.int .i64 y.kind, .bool y.bool, .int .i64 y.num, .string y.text, .slice a5 l5 c5, .slice a6 l6 c6] 26)) := ((Below.refl _ _).alloc (Nat.le_refl _) _).alloc (by simp) _
  obtain ⟨w1, hw1⟩ : ∃ W, W = (w.alloc (.cells #[.int .i64 x.kind, .bool x.bool, .int .i64 x.num, .string x.text, .slice a3 l3 c3, .slice a4 l4 c4] 26)).alloc (.cells #[.int .i64 y.kind, .bool y.bool, .int .i64 y.num, .string y.text, .slice a5 l5 c5, .slice a6 l6 c6] 26) := ⟨_, rfl⟩
  have hz : (w.alloc (.cells #[.int .i64 x.kind, .bool x.bool, .int .i64 x.num, .string x.text, .slice a3 l3 c3, .slice a4 l4 c4] 26)).heap.size = w.heap.size + 1 := by simp
  have hk1 : w1.heap[w.heap.size]? = some (.cells #[.int .i64 x.kind, .bool x.bool, .int .i64 x.num, .string x.text, .slice a3 l3 c3, .slice a4 l4 c4] 26 (0, 0)) := by rw [hw1]; exact (Below.heap_alloc _ _ _ (by omega)).trans (heap_alloc_new _ _)
  have hk2 : w1.heap[w.heap.size + 1]? = some (.cells #[.int .i64 y.kind, .bool y.bool, .int .i64 y.num, .string y.text, .slice a5 l5 c5, .slice a6 l6 c6] 26 (0, 0)) := by rw [hw1, ← hz]; exact heap_alloc_new _ _
  rw [← hw1] at b2
  have hs1 := lt_of_block hk2
  have FE := Lib.hid (fun (wx : World) (hb : Below w1.heap.size w1 wx) => eqstrs_any _ _ x.names y.names wx (hns.same (w' := wx) fun b hb' => (hb.block b (Nat.lt_of_lt_of_le (hS b hb') b2.size)).trans (b2.block b (hS b hb'))) (hns'.same (w' := wx) fun b hb' => (hb.block b (Nat.lt_of_lt_of_le (hS' b hb') b2.size)).trans (b2.block b (hS' b hb'))) (fun b hb' => Nat.lt_of_lt_of_le (Nat.lt_of_lt_of_le (hS b hb') b2.size) hb.size) (fun b hb' => Nat.lt_of_lt_of_le (Nat.lt_of_lt_of_le (hS' b hb') b2.size) hb.size))
  have FI := Lib.hid (fun (wx : World) (hb : Below w1.heap.size w1 wx) => eqitems_any HV _ _ x.items y.items wx
    (his.same (w' := wx) (R' := NodeIn d S wx) (fun b hb' => (hb.block b (Nat.lt_of_lt_of_le (hS b hb') b2.size)).trans (b2.block b (hS b hb'))) fun cs y q => q.same fun b hb' => (hb.block b (Nat.lt_of_lt_of_le (hS b hb') b2.size)).trans (b2.block b (hS b hb')))
    (his'.same (w' := wx) (R' := NodeIn d' S' wx) (fun b hb' => (hb.block b (Nat.lt_of_lt_of_le (hS' b hb') b2.size)).trans (b2.block b (hS' b hb'))) fun cs y q => q.same fun b hb' => (hb.block b (Nat.lt_of_lt_of_le (hS' b hb') b2.size)).trans (b2.block b (hS' b hb')))
    (fun b hb' => Nat.lt_of_lt_of_le (Nat.lt_of_lt_of_le (hS b hb') b2.size) hb.size) (fun b hb' => Nat.lt_of_lt_of_le (Nat.lt_of_lt_of_le (hS' b hb') b2.size) hb.size))
  have F1 := Lib.hid (fun (wx : World) (hb : Below w1.heap.size w1 wx) => six_of ((hb.block _ (by omega : w.heap.size < w1.heap.size)).trans hk1))
  have F2 := Lib.hid (fun (wx : World) (hb : Below w1.heap.size w1 wx) => six_of ((hb.block _ hs1).trans hk2))
  have ck1 := six_of hk1
  have ck2 := six_of hk2
  have B2 := Lib.hid b2
  have HE := Lib.hid (nd_eq x y)
  clear hns his hns' his' hS hS' HV hz hk1 hk2 b2 ht ht'
  have fin : ∀ (w2 : World) (b : Bool), Below w1.heap.size w1 w2 → (b = true ↔ x = y) → ∃ b' : Bool, Ending.returned (.bool b) = .returned (.bool b') ∧ (b' = true ↔ x = y) ∧ Below w.heap.size w w2 := fun w2 b hb h => ⟨b, rfl, h, B2.out.trans (hb.mono B2.out.size)⟩
  have FIN := Lib.hid fin
  clear fin
  have no : ∀ (w2 : World), Below w1.heap.size w1 w2 → x ≠ y → BoolFor (x = y) w (.returned (.bool false)) w2 := fun w2 hb h => ⟨false, rfl, ⟨fun e => (by cases e), fun e => absurd e h⟩, B2.out.trans (hb.mono B2.out.size)⟩
  have NO := Lib.hid no
  clear no
  by_cases hk : x.kind = y.kind
  · have hkb : (x.kind == y.kind) = true := by simp [hk]
    by_cases hbo : x.bool = y.bool
    · have hbb : (x.bool == y.bool) = true := by simp [hbo]
      by_cases hnu : x.num = y.num
      · have hnb : (x.num == y.num) = true := by simp [hnu]
        by_cases hte : x.text = y.text
        · have htb := str_beq hte
          have HALL := Lib.hid (And.intro hk (And.intro hbo (And.intro hnu hte)))
          clear hk hbo hnu hte
          by_cases hnames : x.names = y.names
          · have HN := Lib.hid hnames
            clear hnames
            go_enter Tryd.func17, Tryd.ntmps17
            go_upto_region 1 with fail
            rw [← hw1]
            clear hw1
            go_wp2_with (first
              | (go_at_call 34; (with_reducible refine (FE.out _ (Below.refl _ _)).mono ?_); rintro e w2 ⟨bb, rfl, hbb, hb2⟩; obtain rfl : bb = true := hbb.2 HN.out; (have fk1 := F1.out w2 hb2); (have fk2 := F2.out w2 hb2); clear ck1 ck2 hbb)
              | (go_at_call 35; (with_reducible refine (FI.out _ hb2).mono ?_); rintro e w3 ⟨b3, rfl, hb3, hb3'⟩))
            go_ret
            exact FIN.out _ b3 (hb2.trans (hb3'.mono hb2.size)) (hb3.trans ⟨fun hi => HE.out.2 ⟨HALL.out.1, HALL.out.2.1, HALL.out.2.2.1, HALL.out.2.2.2, HN.out, hi⟩, fun e => (HE.out.1 e).2.2.2.2.2⟩)
          · have HN := Lib.hid hnames
            clear hnames
            go_enter Tryd.func17, Tryd.ntmps17
            go_upto_region 1 with fail
            rw [← hw1]
            clear hw1
            go_wp2_with (go_at_call 34; (with_reducible refine (FE.out _ (Below.refl _ _)).mono ?_); rintro e w2 ⟨bb, rfl, hbb, hb2⟩; obtain rfl : bb = false := (by cases bb; rfl; exact absurd (hbb.1 rfl) HN.out); clear hbb)
            go_ret
            exact NO.out _ hb2 fun e => HN.out (HE.out.1 e).2.2.2.2.1
        · have htb := str_bne hte
          have hxy := Lib.hid (fun e : x = y => hte (HE.out.1 e).2.2.2.1)
          clear hk hbo hnu hte
          go_enter Tryd.func17, Tryd.ntmps17
          go_upto_region 1 with fail
          rw [← hw1]
          clear hw1
          go_wp2
          go_ret
          exact NO.out _ (Below.refl _ _) hxy.out
      · have hnb : (x.num == y.num) = false := by simp [hnu]
        have hxy := Lib.hid (fun e : x = y => hnu (HE.out.1 e).2.2.1)
        clear hk hbo hnu
        go_enter Tryd.func17, Tryd.ntmps17
        go_upto_region 1 with fail
        rw [← hw1]
        clear hw1
        go_wp2
        go_ret
        exact NO.out _ (Below.refl _ _) hxy.out
    · have hbb : (x.bool == y.bool) = false := by simp [hbo]
      have hxy := Lib.hid (fun e : x = y => hbo (HE.out.1 e).2.1)
      clear hk hbo
      go_enter Tryd.func17, Tryd.ntmps17
      go_upto_region 1 with fail
      rw [← hw1]
      clear hw1
      go_wp2
      go_ret
      exact NO.out _ (Below.refl _ _) hxy.out
  · have hkb : (x.kind == y.kind) = false := by simp [hk]
    have hxy := Lib.hid (fun e : x = y => hk (HE.out.1 e).1)
    clear hk
    go_enter Tryd.func17, Tryd.ntmps17
    go_upto_region 1 with fail
    rw [← hw1]
    clear hw1
    go_wp2
    go_ret
    exact NO.out _ (Below.refl _ _) hxy.out
theorem same_any : ∀ d, SameAt d
  | 0 => fun d' S S' cs cs' x y w h _ _ _ => h.elim
  | d + 1 => same_step (same_any d)
end Go.Proofs.YthcgkkafbobfoaaDoor
