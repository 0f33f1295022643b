/- The walk of the statement NodePuts. -/
import Derived.Test.YthcgkkafbobfoaaDoorNawk
import Derived.Test.YthcgkkafbobfoaaDoorNget
import Derived.Test.YthcgkkafbobfoaaDoorNkn
namespace Go.Proofs.YthcgkkafbobfoaaDoor
open Go Go.ChangeShapes Go.WideShapes Go.ChangeAt Go.RowKit
set_option linter.unusedVariables false
set_option linter.unusedSimpArgs false

/-- A block that holds a node. -/
structure Hel (TN : TypeId) (d : Nat) (wx : World) (b : Nat) (cs : List Value) (x : ND) : Prop where
  blk : wx.heap[b]? = some (.cells cs.toArray TN (0, 0))
  nod : NodeIn d (fun b => b < wx.heap.size) wx cs x
theorem Hel.below {TN : TypeId} {d b : Nat} {wx wn : World} {cs : List Value} {x : ND} (h : Hel TN d wx b cs x) (hb : Below wx.heap.size wx wn) : Hel TN d wn b cs x :=
  ⟨(hb.block b (lt_of_block h.blk)).trans h.blk, (h.nod.same fun b hb' => hb.block b hb').mono fun b hb' => Nat.lt_of_lt_of_le hb' hb.size⟩
theorem MapOk.mono {d d' : Nat} {x : ND} (h : MapOk d x) (hd : d ≤ d') : MapOk d' x := { h with items := fun y hy => validN_mono hd (h.items y hy) }
theorem NodeIn.lens {d : Nat} {S : Nat → Prop} {w : World} {k b z t : Value} {a a' : Option Addr} {l c l' c' : Nat} {x : ND} (h : NodeIn d S w [k, b, z, t, .slice a l c, .slice a' l' c'] x) : l = x.names.length ∧ l' = x.items.length := by
  cases d with
  | zero => exact h.elim
  | succ d =>
    obtain ⟨vn, vi, e, -, ⟨_, _, e1, -⟩, ⟨_, _, e2, -⟩⟩ := h
    simp only [List.cons.injEq, and_true] at e
    obtain ⟨-, -, -, -, rfl, rfl⟩ := e
    cases e1; cases e2
    exact ⟨rfl, rfl⟩
theorem NodeIn.parts {d : Nat} {S : Nat → Prop} {w : World} {k b z t : Value} {a a' : Option Addr} {l c l' c' : Nat} {x : ND} (h : NodeIn (d + 1) S w [k, b, z, t, .slice a l c, .slice a' l' c'] x) : StrsIn S w (.slice a l c) x.names ∧ NodesIn (NodeIn d S w) S w (.slice a' l' c') x.items := by
  obtain ⟨vn, vi, e, -, h1, h2⟩ := h
  simp only [List.cons.injEq, and_true] at e
  obtain ⟨-, -, -, -, rfl, rfl⟩ := e
  exact ⟨h1, h2⟩
theorem nod_grown {d g : Nat} {w w' : World} {cs : List Value} {x : ND} (h : NodeIn d (fun b => g < b ∧ b < w.heap.size) w cs x) (hg : w.grownBy w' (some g)) : NodeIn d (fun b => g < b ∧ b < w'.heap.size) w' cs x :=
  (h.same fun b hb => hg.block b hb.2 (by intro e; have := Option.some.inj e; have := hb.1; omega)).mono fun b hb => ⟨hb.1, Nat.lt_of_lt_of_le hb.2 hg.size⟩
def sD : ByteArray := { data := #[100] }
def sN : ByteArray := { data := #[110, 101, 119] }
theorem names4 (s : ByteArray) (h : s ∈ [sA, sB, sD, sN]) : textOk s = true ∧ s.size ≤ 65536 ∧ s.size ≤ maxLen - 2 := by
  have : ([sA, sB, sD, sN].all fun s => textOk s && decide (s.size ≤ 65536) && decide (s.size ≤ maxLen - 2)) = true := by decide +kernel
  have := List.all_eq_true.1 this s h
  simp only [Bool.and_eq_true, decide_eq_true_eq] at this
  exact ⟨this.1.1, this.1.2, this.2⟩
set_option maxHeartbeats 3200000 in
set_option maxRecDepth 100000 in
theorem puts_walk (a : Option Addr) (len cap : Nat) (zs : List Int) (w : World) (hn : NumsB w.heap.size w a len cap zs) (hT : Utab w) :
    Calls Tryd.prog 4 #[.slice a len cap] w fun e w' => e = .returned (.bool true) ∧ Below w.heap.size w w' := by
  have AW := Lib.hid (fun (wx : World) (hb : Below w.heap.size w wx) => awake5_any wx (hT.below hb))
  have LI := Lib.hid (fun wx : World => light_any a len cap wx)
  have RO := Lib.hid (roll_any a len cap zs w hn)
  have HT := Lib.hid hT
  clear hn hT
  have hB := Below.refl w.heap.size w
  by_cases h500 : (len : Int) ≤ 500
  · rw [decide_eq_true h500] at LI
    clear h500 hB
    go_enter Tryd.func4, Tryd.ntmps4
    go_upto_region 5 with (first
      | (go_at_call 10; (with_reducible refine (LI.out _).mono ?_); rintro e w3 ⟨rfl, rfl⟩)
      | (go_at_call 11; (with_reducible refine (RO.out).mono ?_); rintro e w1 ⟨rfl, hb1, hd1⟩)
      | (go_at_call 12; (with_reducible refine (kmap_lit w.heap.size w.heap.size 3 3 rfl (by decide) (by decide) _ hd1).mono ?_); rintro e w2 ⟨⟨cm, m, rfl, hm, hmo, hm3⟩, hg2, hd2⟩; obtain ⟨a1, l1, c1, a2, l2, c2, rfl⟩ : ∃ a1 l1 c1 a2 l2 c2, cm = [.int .i64 5, .bool false, .int .i64 0, .string ⟨#[]⟩, .slice a1 l1 c1, .slice a2 l2 c2] := (by have := hm.slices; rw [hmo.kind, hmo.bool, hmo.num, hmo.text] at this; exact this))
      | (go_at_call 13; (with_reducible refine (knode_lit w.heap.size w.heap.size 3 3 rfl (by decide) (by decide) _ hd2).mono ?_); rintro e w4 ⟨⟨cx, x, rfl, hx, hxv⟩, hg4, hd4⟩; obtain ⟨a3, l3, c3, a4, l4, c4, rfl⟩ := hx.slices))
    have hz1 := hd1.lt
    have B2 : Below w.heap.size w w2 := gbelow hb1 hg2 hb1.size (Nat.le_refl _)
    have B4 : Below w.heap.size w w4 := gbelow B2 hg4 B2.size (Nat.le_refl _)
    have m4 : NodeIn 3 (fun b => w.heap.size < b ∧ b < w4.heap.size) w4 _ m := nod_grown (hm.mono fun b hb => ⟨by have := hb.1; omega, hb.2⟩) hg4
    have x4 : NodeIn 3 (fun b => w.heap.size < b ∧ b < w4.heap.size) w4 _ x := hx.mono fun b hb => ⟨by have := hb.1; have := hg2.size; omega, hb.2⟩
    have k5 := heap_alloc_new w4 (.cells #[.int .i64 5, .bool false, .int .i64 0, .string ⟨#[]⟩, .slice a1 l1 c1, .slice a2 l2 c2] 26)
    have b5 := (Below.refl w4.heap.size w4).alloc (o := .cells #[.int .i64 5, .bool false, .int .i64 0, .string ⟨#[]⟩, .slice a1 l1 c1, .slice a2 l2 c2] 26) (Nat.le_refl _)
    have z5 : (w4.alloc (.cells #[.int .i64 5, .bool false, .int .i64 0, .string ⟨#[]⟩, .slice a1 l1 c1, .slice a2 l2 c2] 26)).heap.size = w4.heap.size + 1 := by simp
    generalize w4.alloc (.cells #[.int .i64 5, .bool false, .int .i64 0, .string ⟨#[]⟩, .slice a1 l1 c1, .slice a2 l2 c2] 26) = w5 at k5 b5 z5 ⊢
    have k6 := heap_alloc_new w5 (.cells #[.int .i64 x.kind, .bool x.bool, .int .i64 x.num, .string x.text, .slice a3 l3 c3, .slice a4 l4 c4] 26)
    have b6 := (Below.refl w5.heap.size w5).alloc (o := .cells #[.int .i64 x.kind, .bool x.bool, .int .i64 x.num, .string x.text, .slice a3 l3 c3, .slice a4 l4 c4] 26) (Nat.le_refl _)
    generalize w5.alloc (.cells #[.int .i64 x.kind, .bool x.bool, .int .i64 x.num, .string x.text, .slice a3 l3 c3, .slice a4 l4 c4] 26) = w6 at k6 b6 ⊢
    have k7 := heap_alloc_new w6 (.cells #[.string { data := #[97] }, .string { data := #[98] }, .string { data := #[100] }, .string { data := #[110, 101, 119] }] 9)
    have b7 := (Below.refl w6.heap.size w6).alloc (o := .cells #[.string { data := #[97] }, .string { data := #[98] }, .string { data := #[100] }, .string { data := #[110, 101, 119] }] 9) (Nat.le_refl _)
    have hg46 : Below w4.heap.size w4 w6 := b5.trans (b6.mono b5.size)
    have hg47 := hg46.trans (b7.mono hg46.size)
    rw [z5] at k6
    have M7 : NodeIn 3 (fun b => w.heap.size < b ∧ b < (w6.alloc (.cells #[.string { data := #[97] }, .string { data := #[98] }, .string { data := #[100] }, .string { data := #[110, 101, 119] }] 9)).heap.size) (w6.alloc (.cells #[.string { data := #[97] }, .string { data := #[98] }, .string { data := #[100] }, .string { data := #[110, 101, 119] }] 9)) _ m := nod_grown m4 (grown_of_below hg47 (Nat.le_refl _) _)
    have X7 : NodeIn 3 (fun b => w.heap.size < b ∧ b < (w6.alloc (.cells #[.string { data := #[97] }, .string { data := #[98] }, .string { data := #[100] }, .string { data := #[110, 101, 119] }] 9)).heap.size) (w6.alloc (.cells #[.string { data := #[97] }, .string { data := #[98] }, .string { data := #[100] }, .string { data := #[110, 101, 119] }] 9)) _ x := nod_grown x4 (grown_of_below hg47 (Nat.le_refl _) _)
    have D7 := hd4.go hg47
    have hz4 := hd4.lt
    have hz6 := hg46.size
    have bM := (b7.block _ (lt_of_block ((b6.block _ (lt_of_block k5)).trans k5))).trans ((b6.block _ (lt_of_block k5)).trans k5)
    have bX := (b7.block _ (lt_of_block k6)).trans k6
    have BW := B4.trans (hg47.mono B4.size)
    have WD := Lib.hid (word_any w.heap.size w.heap.size w6.heap.size 4 4 [sA, sB, sD, sN] (w6.alloc (.cells #[.string { data := #[97] }, .string { data := #[98] }, .string { data := #[100] }, .string { data := #[110, 101, 119] }] 9)) (by decide) (by decide) rfl (cells_lits [sA, sB, sD, sN] k7 rfl) (by omega) D7)
    have FW := Lib.hid (And.intro M7 (And.intro X7 (And.intro bM (And.intro bX BW))))
    clear hm hx hg2 hg4 hd1 hd2 hd4 hb1 B2 B4 m4 x4 k5 k6 b5 b6 k7 b7 hg46 hg47 M7 X7 D7 bM bX BW LI RO z5 hz1
    go_upto_region 6 with (go_at_call 14; refine (WD.out).mono ?_; rintro e w8 ⟨⟨s, hs, rfl⟩, hg8, hd8⟩)
    obtain ⟨M7, X7, bM, bX, BW⟩ := FW.out
    have hM8 : Hel 26 3 w8 w4.heap.size [.int .i64 5, .bool false, .int .i64 0, .string ⟨#[]⟩, .slice a1 l1 c1, .slice a2 l2 c2] m := ⟨(hg8.block _ (lt_of_block bM) (by intro e; have := Option.some.inj e; omega)).trans bM, (nod_grown M7 hg8).mono fun b hb => hb.2⟩
    have hX8 : Hel 26 3 w8 (w4.heap.size + 1) [.int .i64 x.kind, .bool x.bool, .int .i64 x.num, .string x.text, .slice a3 l3 c3, .slice a4 l4 c4] x := ⟨(hg8.block _ (lt_of_block bX) (by intro e; have := Option.some.inj e; omega)).trans bX, (nod_grown X7 hg8).mono fun b hb => hb.2⟩
    have B8 : Below w.heap.size w w8 := gbelow BW hg8 BW.size (Nat.le_refl _)
    obtain ⟨hs1, hs2, hs3⟩ := names4 s hs
    have hm7 : MapOk 7 m := hmo.mono (by decide)
    have hx7 : validN 7 x = true := validN_mono (by decide) hxv
    have hy7 : MapOk 7 (putN m s x) := put_ok hm7 hs1 hx7 (.inl (by omega))
    have hy8 : validN 8 (putN m s x) = true := (mapOk_iff hy7.kind).2 hy7
    have PP := Lib.hid (put_any (d := 3) _ _ m x s w8 (hM8.nod.deeper (by decide)) hX8.nod (fun b hb => hb) (HT.out.below B8) hm7 hx7 hy8 hs2)
    obtain ⟨y, hy⟩ : ∃ y, y = putN m s x := ⟨_, rfl⟩
    rw [← hy] at hy7 hy8 PP
    have qM := six_of hM8.blk
    have qX := six_of hX8.blk
    have HYE := Lib.hid hy
    have HM8 := Lib.hid hM8
    have HX8 := Lib.hid hX8
    have HB8 := Lib.hid B8
    have HY7 := Lib.hid hy7
    have HY8 := Lib.hid hy8
    have HM7 := Lib.hid hm7
    have HX7 := Lib.hid hx7
    have HM3 := Lib.hid hm3
    have HS2 := Lib.hid hs2
    clear hs hs1 hs2 hs3 hm7 hx7 hy7 hy8 hy hmo hxv hm3 M7 X7 bM bX BW hg8 hd8 FW WD hM8 hX8 B8 hz4 hz6
    go_upto_region 9 with (go_at_call 15; (with_reducible refine (PP.out).mono ?_); rintro e w9 ⟨v1, v2, rfl, hn9, hb9⟩; obtain ⟨a5, l5, c5, a6, l6, c6, rfl, rfl⟩ : ∃ a l c a' l' c', v1 = .slice a l c ∧ v2 = .slice a' l' c' := (by obtain ⟨a, l, c, a', l', c', e⟩ := hn9.slices; simp only [List.cons.injEq, and_true] at e; exact ⟨a, l, c, a', l', c', e.2.2.2.2.1, e.2.2.2.2.2⟩))
    have k10 := heap_alloc_new w9 (.cells #[.int .i64 5, .bool false, .int .i64 0, .string ⟨#[]⟩, .slice a5 l5 c5, .slice a6 l6 c6] 26)
    have b10 := (Below.refl w9.heap.size w9).alloc (o := .cells #[.int .i64 5, .bool false, .int .i64 0, .string ⟨#[]⟩, .slice a5 l5 c5, .slice a6 l6 c6] 26) (Nat.le_refl _)
    generalize w9.alloc (.cells #[.int .i64 5, .bool false, .int .i64 0, .string ⟨#[]⟩, .slice a5 l5 c5, .slice a6 l6 c6] 26) = w10 at k10 b10 ⊢
    have hb10 : Below w8.heap.size w8 w10 := hb9.trans (b10.mono hb9.size)
    have hY10 : Hel 26 4 w10 w9.heap.size [.int .i64 5, .bool false, .int .i64 0, .string ⟨#[]⟩, .slice a5 l5 c5, .slice a6 l6 c6] y := ⟨k10, (hn9.same fun b hb => b10.block b hb.2.1).mono fun b hb => Nat.lt_of_lt_of_le hb.2.1 b10.size⟩
    have B10 := HB8.out.trans (hb10.mono HB8.out.size)
    have hM10 := HM8.out.below hb10
    have hX10 := HX8.out.below hb10
    have HM := Lib.hid (fun (wx : World) (hb : Below w10.heap.size w10 wx) => hM10.below hb)
    have HX := Lib.hid (fun (wx : World) (hb : Below w10.heap.size w10 wx) => hX10.below hb)
    have HY := Lib.hid (fun (wx : World) (hb : Below w10.heap.size w10 wx) => hY10.below hb)
    have HB10 := Lib.hid B10
    have GY := Lib.hid (fun (wx : World) (hb : Below w10.heap.size w10 wx) (t : ByteArray) => nget_any (d := 3) _ y t wx (hY10.below hb).nod (fun b hb => hb) HY7.out.kind HY7.out.len (lowN_of_valid 8 4 y HY8.out))
    have GM := Lib.hid (fun (wx : World) (hb : Below w10.heap.size w10 wx) (t : ByteArray) => nget_any (d := 3) _ m t wx ((hM10.below hb).nod.deeper (by decide)) (fun b hb => hb) HM7.out.kind HM7.out.len (lowN_of_valid 8 4 m ((mapOk_iff HM7.out.kind).2 HM7.out)))
    have qM := six_of hM10.blk
    have qX := six_of hX10.blk
    have qY := six_of hY10.blk
    clear hb9 hn9 k10 b10 hb10 hY10 hM10 hX10 B10 HM8 HX8 PP
    have hl5 : l5 = y.names.length := (HY.out w10 (Below.refl _ _)).nod.lens.1
    have hl1 : l1 = m.names.length := (HM.out w10 (Below.refl _ _)).nod.lens.1
    have G1 := GY.out w10 (Below.refl _ _) s
    rw [show getN y s = some x by rw [HYE.out]; exact get_put HM7.out] at G1
    have HG1 := Lib.hid G1
    have hcase : ∃ o, getN m s = o ∧ ((o.isSome = true ∧ (l5 : Int) = (l1 : Int)) ∨ (o.isSome = false ∧ (l5 : Int) = (l1 : Int) + 1)) := by
      refine ⟨_, rfl, ?_⟩
      by_cases hin : s ∈ m.names
      · have := put_len_old (v := x) hin
        exact .inl ⟨(get_some_iff HM7.out).2 hin, by rw [hl5, hl1, HYE.out]; omega⟩
      · have := put_len_new (v := x) hin
        refine .inr ⟨?_, by rw [hl5, hl1, HYE.out]; omega⟩
        cases hq : (getN m s).isSome with
        | false => rfl
        | true => exact absurd ((get_some_iff HM7.out).1 hq) hin
    have HL1 := Lib.hid hl1
    have HL5 := Lib.hid hl5
    have hl13 : (l1 : Int) ≤ 3 := by have := HM3.out; have := HM7.out.len; omega
    obtain ⟨o, ho, hcase⟩ := hcase
    have G2 := Lib.hid (fun (wx : World) (hb : Below w10.heap.size w10 wx) => (ho ▸ GM.out wx hb s : Calls Tryd.prog 16 _ wx (GetNew 3 wx o)))
    clear hl5 hl1 G1 ho
    go_upto_region 10 with (go_at_call 16; (with_reducible refine (HG1.out).mono ?_); rintro e w11 ⟨cg, rfl, hn11, hb11⟩; obtain ⟨a7, l7, c7, a8, l8, c8, rfl⟩ : ∃ a l c a' l' c', cg = [.int .i64 x.kind, .bool x.bool, .int .i64 x.num, .string x.text, .slice a l c, .slice a' l' c'] := hn11.slices)
    have k12 := heap_alloc_new w11 (.cells #[.int .i64 x.kind, .bool x.bool, .int .i64 x.num, .string x.text, .slice a7 l7 c7, .slice a8 l8 c8] 26)
    have b12 := (Below.refl w11.heap.size w11).alloc (o := .cells #[.int .i64 x.kind, .bool x.bool, .int .i64 x.num, .string x.text, .slice a7 l7 c7, .slice a8 l8 c8] 26) (Nat.le_refl _)
    generalize w11.alloc (.cells #[.int .i64 x.kind, .bool x.bool, .int .i64 x.num, .string x.text, .slice a7 l7 c7, .slice a8 l8 c8] 26) = w12 at k12 b12 ⊢
    have hG12 : Hel 26 4 w12 w11.heap.size [.int .i64 x.kind, .bool x.bool, .int .i64 x.num, .string x.text, .slice a7 l7 c7, .slice a8 l8 c8] x := ⟨k12, (hn11.same fun b hb => b12.block b hb.2.1).mono fun b hb => Nat.lt_of_lt_of_le hb.2.1 b12.size⟩
    have hb12 : Below w10.heap.size w10 w12 := hb11.trans (b12.mono hb11.size)
    have HG12 := Lib.hid (fun (wx : World) (hb : Below w12.heap.size w12 wx) => hG12.below hb)
    have HB12 := Lib.hid hb12
    have qM2 := six_of (HM.out _ hb12).blk
    clear hb11 hn11 k12 b12 hG12 qM qX qY HG1
    go_upto_region 11 with (go_at_call 16; (with_reducible refine (G2.out _ hb12).mono ?_); rintro e w13 ⟨ch, rfl, hn13, hb13⟩; obtain ⟨a9, l9, c9, d9, m9, e9, rfl⟩ := hn13.slices)
    have b14 := (Below.refl w13.heap.size w13).alloc (o := .cells #[.int .i64 (o.getD nd0).kind, .bool (o.getD nd0).bool, .int .i64 (o.getD nd0).num, .string (o.getD nd0).text, .slice a9 l9 c9, .slice d9 m9 e9] 26) (Nat.le_refl _)
    generalize w13.alloc (.cells #[.int .i64 (o.getD nd0).kind, .bool (o.getD nd0).bool, .int .i64 (o.getD nd0).num, .string (o.getD nd0).text, .slice a9 l9 c9, .slice d9 m9 e9] 26) = w14 at b14 ⊢
    have hb14 : Below w12.heap.size w12 w14 := hb13.trans (b14.mono hb13.size)
    have hc14 := hb12.trans (hb14.mono hb12.size)
    have qM := six_of (HM.out _ hc14).blk
    have qX := six_of (HX.out _ hc14).blk
    have qY := six_of (HY.out _ hc14).blk
    have qG := six_of (HG12.out _ hb14).blk
    have SG := Lib.hid (same_any 4 3 _ _ _ _ x x w14 (HG12.out _ hb14).nod (HX.out _ hc14).nod (fun b hb => hb) (fun b hb => hb))
    have QY := Lib.hid (fun (wx : World) (hb : Below w10.heap.size w10 wx) => six_of (HY.out _ hb).blk)
    have QM := Lib.hid (fun (wx : World) (hb : Below w10.heap.size w10 wx) => six_of (HM.out _ hb).blk)
    clear hb12 hb13 hn13 b14 qM2 G2 hb14
    have key : ∀ hd : Bool, o.isSome = hd → ((hd = true ∧ (l5 : Int) = (l1 : Int)) ∨ (hd = false ∧ (l5 : Int) = (l1 : Int) + 1)) := fun hd e => e ▸ hcase
    generalize o.isSome = hd at key ⊢
    have key := key hd rfl
    clear hcase
    rcases key with ⟨rfl, hll⟩ | ⟨rfl, hll⟩
    all_goals
      go_upto_region 13 with (go_at_call 17; (with_reducible refine (SG.out).mono ?_); rintro e w15 ⟨bs, rfl, hbs, hb15⟩; obtain rfl : bs = true := hbs.2 (by first | exact rfl | trivial); (have hc15 := hc14.trans (hb15.mono hc14.size)); (have qM2 := QM.out _ hc15); (have qY2 := QY.out _ hc15))
      have HC15 := Lib.hid hc15
      have NM := Lib.hid (fun (wx : World) (hb : Below w10.heap.size w10 wx) => (HM.out wx hb).nod.parts)
      have NY := Lib.hid (fun (wx : World) (hb : Below w10.heap.size w10 wx) => (HY.out wx hb).nod.parts)
      clear hb15 qM qX qY qG hbs SG hc14 hll key
      go_upto_region 14 with fail
      go_loopw [96] (fun i wr => ∃ j : Nat, i = .int .i64 j ∧ j ≤ l1 ∧ Below w10.heap.size w10 wr) (fun i _ => l1 - (intOf i).toNat)
      case atStart => exact ⟨0, rfl, Nat.zero_le _, HC15.out⟩
      case round =>
        obtain ⟨j, rfl, hj, hB⟩ := hrel
        by_cases hlt : j < l1
        · have hlt' : (j : Int) < (l1 : Int) := by omega
          have hj0 : (0 : Int) ≤ (j : Int) := by omega
          obtain ⟨t, ht⟩ : ∃ t, m.names[j]? = some t := ⟨_, List.getElem?_eq_getElem (by have := HL1.out; omega)⟩
          have hyt : y.names[j]? = some t := by rw [HYE.out]; exact put_names ht
          have hlt5 : (j : Int) < (l5 : Int) := by have := lt_of_some hyt; have := HL5.out; omega
          obtain ⟨bn, on, hbn, -, kn⟩ := (NM.out wr hB).1.get ht
          obtain ⟨by', oy, hby, -, -⟩ := (NY.out wr hB).1.get hyt
          subst hbn hby
          have GZ := GY.out wr hB t
          obtain ⟨oz, hoz⟩ : ∃ oz, getN y t = oz := ⟨_, rfl⟩
          rw [hoz] at GZ
          have HGZ := Lib.hid GZ
          have HOZ := Lib.hid hoz
          have HBR := Lib.hid hB
          have HTJ := Lib.hid ht
          have HYT := Lib.hid hyt
          have qY := six_of (HY.out wr hB).blk
          clear GZ hoz ht hyt
          go_upto_region 17 with (go_at_call 16; (with_reducible refine (HGZ.out).mono ?_); rintro e w16 ⟨cz, rfl, hn16, hb16⟩; obtain ⟨a10, l10, c10, a11, l11, c11, rfl⟩ := hn16.slices)
          have k17 := heap_alloc_new w16 (.cells #[.int .i64 (oz.getD nd0).kind, .bool (oz.getD nd0).bool, .int .i64 (oz.getD nd0).num, .string (oz.getD nd0).text, .slice a10 l10 c10, .slice a11 l11 c11] 26)
          have b17 := (Below.refl w16.heap.size w16).alloc (o := .cells #[.int .i64 (oz.getD nd0).kind, .bool (oz.getD nd0).bool, .int .i64 (oz.getD nd0).num, .string (oz.getD nd0).text, .slice a10 l10 c10, .slice a11 l11 c11] 26) (Nat.le_refl _)
          generalize w16.alloc (.cells #[.int .i64 (oz.getD nd0).kind, .bool (oz.getD nd0).bool, .int .i64 (oz.getD nd0).num, .string (oz.getD nd0).text, .slice a10 l10 c10, .slice a11 l11 c11] 26) = w17 at k17 b17 ⊢
          have hZ17 : Hel 26 4 w17 w16.heap.size [.int .i64 (oz.getD nd0).kind, .bool (oz.getD nd0).bool, .int .i64 (oz.getD nd0).num, .string (oz.getD nd0).text, .slice a10 l10 c10, .slice a11 l11 c11] (oz.getD nd0) := ⟨k17, (hn16.same fun b hb => b17.block b hb.2.1).mono fun b hb => Nat.lt_of_lt_of_le hb.2.1 b17.size⟩
          have hb17 : Below w10.heap.size w10 w17.drew := (HBR.out.trans ((hb16.trans (b17.mono hb16.size)).mono HBR.out.size)).drew
          have hZd : Hel 26 4 w17.drew w16.heap.size [.int .i64 (oz.getD nd0).kind, .bool (oz.getD nd0).bool, .int .i64 (oz.getD nd0).num, .string (oz.getD nd0).text, .slice a10 l10 c10, .slice a11 l11 c11] (oz.getD nd0) := hZ17.below (Below.refl _ _).drew
          have hb17' : Below w10.heap.size w10 w17 := HBR.out.trans ((hb16.trans (b17.mono hb16.size)).mono HBR.out.size)
          have p1 := six_of (HY.out _ hb17').blk
          obtain ⟨b2', o2', e2', -, y2⟩ := (NY.out _ hb17').1.get HYT.out
          cases e2'
          clear k17 b17 hZ17 hn16 hb16 qY kn
          have q1 := six_of (HY.out _ hb17).blk
          have q2 := six_of (HM.out _ hb17).blk
          have q3 := six_of hZd.blk
          obtain ⟨b1', o1', e1', -, y1⟩ := (NY.out _ hb17).1.get HYT.out
          cases e1'
          have htt : (t.toList != t.toList) = false := by simp
          have hzz : ∀ zi, getN y t = some zi → oz.getD nd0 = zi := fun zi e => by rw [← HOZ.out, e]; rfl
          clear HOZ HGZ
          generalize oz.getD nd0 = zv at hzz hZd q3 ⊢
          by_cases hts : t = s
          · have hx : (t.toList == s.toList) = true := str_beq hts
            have hx2 : (t.toList != s.toList) = false := by simp [bne, hx]
            have HTS := Lib.hid hts
            clear hts
            go_wp2
            go_quiet (fail)
            go_wp2
            go_roundw
            case rel => exact ⟨j + 1, by go_num, by omega, bdrewN hb17' _⟩
            case measure => simp [intOf]; omega
          · have hx : (t.toList == s.toList) = false := str_bne hts
            have hx2 : (t.toList != s.toList) = true := by simp [bne, hx]
            have HTS := Lib.hid hts
            obtain ⟨zi, hzi⟩ : ∃ zi, m.items[j]? = some zi := ⟨_, List.getElem?_eq_getElem (by have := HL1.out; have := HM7.out.len; omega)⟩
            have hzv : zv = zi := (hzz zi (by rw [HYE.out]; exact get_other HM7.out HTJ.out hzi hts)).symm ▸ rfl
            subst hzv
            have hji : j < m.items.length := lt_of_some hzi
            have hl2 : l2 = m.items.length := (HM.out _ hb17).nod.lens.2
            have hj2 : (j : Int) < (l2 : Int) := by omega
            obtain ⟨-, -, -, bi, oi, zj, a13, l13, c13, a14, l14, c14, e2i, -, hzj, hni, i0', i1', i2', i3', i4', i5'⟩ := (NM.out _ hb17).2.at hji
            subst e2i
            obtain rfl : zv = zj := Option.some.inj (hzi.symm.trans hzj)
            have SZ := Lib.hid (same_any 4 2 _ _ _ _ _ _ _ hZd.nod hni (fun b hb => hb) (fun b hb => hb))
            clear hts hzz hzi hzj hji hl2 hni hZd
            refine wp_region_plan (fun w' => w'.cell? ⟨w9.heap.size, 4, none⟩ = some (.slice (some ⟨by', oy, none⟩) l5 c5) ∧ w'.cell? ⟨by', oy + j, none⟩ = some (.string t)) [1, 4] (.take 0 (.take 1 (.take 2 (.take 3 (.take 4 (.take 5 (.ask 6 false (.take 7 (.take 8 (.take 9 (.take 10 (.take 11 (.take 13 (.take 15 (Plan.join true (.ask 12 false (.ask 14 false (.take 16 (.ask 17 false .stop .stop)) .stop) (.ask 14 false (.take 16 (.ask 12 false (.ask 17 false .stop .stop) (.ask 17 false (.ask 12 false .stop .stop) .stop))) .stop)) (.ask 18 false (.ask 19 false (.ask 20 false (.ask 21 false .stop .stop) .stop) .stop) .stop)))))))) ) .stop))))))) (by kernel_rfl) (by kernel_rfl) (fun _ d _ _ _ h => by cases d <;> exact h) ⟨q1.2.2.2.2.1, y1⟩ ?_
            generalize w17.drew = wd at *
            refine take_any _ ?_ rfl rfl ?_ (fun K hK => ?_); rotate_left; (intro w0; go_simp; (try rfl)); (go_simp; refine hK _ ?_; clear hK K)
            refine take_held _ ?_ rfl rfl (by decide) ?_ (fun K hK => ?_); rotate_left; (intro w0 hw0; go_simp; (try rfl)); (go_simp; refine hK _ ?_; clear hK K)
            refine take_any _ ?_ rfl rfl ?_ (fun K hK => ?_); rotate_left; (intro w0; go_simp; (try rfl)); (go_simp; refine hK _ ?_; clear hK K)
            refine take_any _ ?_ rfl rfl ?_ (fun K hK => ?_); rotate_left; (intro w0; go_simp; (try rfl)); (go_simp; refine hK _ ?_; clear hK K)
            refine take_held _ ?_ rfl rfl (by decide) ?_ (fun K hK => ?_); rotate_left; (intro w0 hw0; go_simp; (try rfl)); (go_simp; refine hK _ ?_; clear hK K)
            refine take_any _ ?_ rfl rfl ?_ (fun K hK => ?_); rotate_left; (intro w0; go_simp; (try rfl)); (go_simp; refine hK _ ?_; clear hK K)
            refine ask_late _ rfl trivial ?_; go_wp2_with fail; refine Seg.mk ?_
            refine take_any _ ?_ rfl rfl ?_ (fun K hK => ?_); rotate_left; (intro w0; go_simp; (try rfl)); (go_simp; refine hK _ ?_; clear hK K)
            refine take_any _ ?_ rfl rfl ?_ (fun K hK => ?_); rotate_left; (intro w0; go_simp; (try rfl)); (go_simp; refine hK _ ?_; clear hK K)
            refine take_any _ ?_ rfl rfl ?_ (fun K hK => ?_); rotate_left; (intro w0; go_simp; (try rfl)); (go_simp; refine hK _ ?_; clear hK K)
            refine take_any _ ?_ rfl rfl ?_ (fun K hK => ?_); rotate_left; (intro w0; go_simp; (try rfl)); (go_simp; refine hK _ ?_; clear hK K)
            refine take_any _ ?_ rfl rfl ?_ (fun K hK => ?_); rotate_left; (intro w0; go_simp; (try rfl)); (go_simp; refine hK _ ?_; clear hK K)
            refine take_any _ ?_ rfl rfl ?_ (fun K hK => ?_); rotate_left; (intro w0; go_simp; (try rfl)); (go_simp; refine hK _ ?_; clear hK K)
            refine take_any _ ?_ rfl rfl ?_ (fun K hK => ?_); rotate_left; (intro w0; go_simp; (try rfl)); (go_simp; refine hK _ ?_; clear hK K)
            refine plan_cut [119, 121, 123, 124] (fun vs wx => vs = [.agg #[.int .i64 zv.kind, .bool zv.bool, .int .i64 zv.num, .string zv.text, .slice a10 l10 c10, .slice a11 l11 c11], .slice (some ⟨bi, oi, none⟩) l2 c2, .pointer (some ⟨bi, oi + j * 6, none⟩), .agg #[.int .i64 zv.kind, .bool zv.bool, .int .i64 zv.num, .string zv.text, .slice a13 l13 c13, .slice a14 l14 c14]] ∧ wx = wd) ?_ ?_
            · refine ask_late _ rfl ?_ ?_
              rotate_left
              · go_wp2_with fail; refine Seg.mk ?_
                refine ask_late _ rfl trivial ?_; go_wp2_with fail; refine Seg.mk ?_
                refine take_any _ ?_ rfl rfl ?_ (fun K hK => ?_); rotate_left; (intro w0; go_simp; (try rfl)); (go_simp; refine hK _ ?_; clear hK K)
                refine ask_late _ rfl trivial ?_; go_wp2_with fail; refine Seg.mk ?_
                exact plan_meet [.agg #[.int .i64 zv.kind, .bool zv.bool, .int .i64 zv.num, .string zv.text, .slice a10 l10 c10, .slice a11 l11 c11], .slice (some ⟨bi, oi, none⟩) l2 c2, .pointer (some ⟨bi, oi + j * 6, none⟩), .agg #[.int .i64 zv.kind, .bool zv.bool, .int .i64 zv.num, .string zv.text, .slice a13 l13 c13, .slice a14 l14 c14]] ⟨rfl, rfl⟩ rfl
              · refine ask_late _ rfl trivial ?_; go_wp2_with fail; refine Seg.mk ?_
                refine take_any _ ?_ rfl rfl ?_ (fun K hK => ?_); rotate_left; (intro w0; go_simp; (try rfl)); (go_simp; refine hK _ ?_; clear hK K)
                refine ask_late _ rfl ?_ ?_
                rotate_left
                · go_wp2_with fail; refine Seg.mk ?_
                  refine ask_late _ rfl trivial ?_; go_wp2_with fail; refine Seg.mk ?_
                  exact plan_meet [.agg #[.int .i64 zv.kind, .bool zv.bool, .int .i64 zv.num, .string zv.text, .slice a10 l10 c10, .slice a11 l11 c11], .slice (some ⟨bi, oi, none⟩) l2 c2, .pointer (some ⟨bi, oi + j * 6, none⟩), .agg #[.int .i64 zv.kind, .bool zv.bool, .int .i64 zv.num, .string zv.text, .slice a13 l13 c13, .slice a14 l14 c14]] ⟨rfl, rfl⟩ rfl
                · refine ask_late _ rfl trivial ?_; go_wp2_with fail; refine Seg.mk ?_
                  refine ask_late _ rfl trivial ?_; go_wp2_with fail; refine Seg.mk ?_
                  exact plan_meet [.agg #[.int .i64 zv.kind, .bool zv.bool, .int .i64 zv.num, .string zv.text, .slice a10 l10 c10, .slice a11 l11 c11], .slice (some ⟨bi, oi, none⟩) l2 c2, .pointer (some ⟨bi, oi + j * 6, none⟩), .agg #[.int .i64 zv.kind, .bool zv.bool, .int .i64 zv.num, .string zv.text, .slice a13 l13 c13, .slice a14 l14 c14]] ⟨rfl, rfl⟩ rfl
            · rintro vs w' ⟨rfl, rfl⟩
              simp only [puts, Act.put, List.setIfInBounds_toArray, List.set_cons_zero, List.set_cons_succ]
              refine ask_late _ rfl trivial ?_; go_wp2_with (go_at_call 17; refine (SZ.out).mono ?_; rintro e w18 ⟨bs, rfl, hbs, hb18⟩; obtain rfl : bs = true := hbs.2 (by first | exact rfl | trivial)); refine Seg.mk ?_
              refine ask_late _ rfl trivial ?_; go_wp2_with fail; refine Seg.mk ?_
              refine ask_late _ rfl trivial ?_; go_wp2_with fail; refine Seg.mk ?_
              refine ask_last _ rfl trivial ?_
              go_wp2
              go_roundw
              case rel => exact ⟨j + 1, by go_num, by omega, hb17.trans (hb18.mono hb17.size)⟩
              case measure => simp [intOf]; omega
        · have hlt' : ¬ (j : Int) < (l1 : Int) := by omega
          have hag : putN y s x = y := by rw [HYE.out]; exact put_again HM7.out
          have PP2 := put_any (d := 3) _ _ y x s wr (HY.out wr hB).nod (HX.out wr hB).nod (fun b hb => hb) (HT.out.below (HB10.out.trans (hB.mono HB10.out.size))) HY7.out HX7.out (by rw [hag]; exact HY8.out) HS2.out
          rw [hag] at PP2
          have HPP2 := Lib.hid PP2
          have HBR := Lib.hid hB
          have qY := six_of (HY.out wr hB).blk
          have qX := six_of (HX.out wr hB).blk
          clear PP2 hag hB hj hlt
          go_upto_region 21 with (go_at_call 15; (with_reducible refine (HPP2.out).mono ?_); rintro e w18 ⟨v1, v2, rfl, hn18, hb18⟩; obtain ⟨a15, l15, c15, a16, l16, c16, rfl, rfl⟩ : ∃ a l c a' l' c', v1 = .slice a l c ∧ v2 = .slice a' l' c' := (by obtain ⟨a, l, c, a', l', c', e⟩ := hn18.slices; simp only [List.cons.injEq, and_true] at e; exact ⟨a, l, c, a', l', c', e.2.2.2.2.1, e.2.2.2.2.2⟩))
          have k19 := heap_alloc_new w18 (.cells #[.int .i64 5, .bool false, .int .i64 0, .string ⟨#[]⟩, .slice a15 l15 c15, .slice a16 l16 c16] 26)
          have b19 := (Below.refl w18.heap.size w18).alloc (o := .cells #[.int .i64 5, .bool false, .int .i64 0, .string ⟨#[]⟩, .slice a15 l15 c15, .slice a16 l16 c16] 26) (Nat.le_refl _)
          generalize w18.alloc (.cells #[.int .i64 5, .bool false, .int .i64 0, .string ⟨#[]⟩, .slice a15 l15 c15, .slice a16 l16 c16] 26) = w19 at k19 b19 ⊢
          have hA19 : NodeIn 4 (fun b => b < w19.heap.size) w19 [.int .i64 5, .bool false, .int .i64 0, .string ⟨#[]⟩, .slice a15 l15 c15, .slice a16 l16 c16] y := (hn18.same fun b hb => b19.block b hb.2.1).mono fun b hb => Nat.lt_of_lt_of_le hb.2.1 b19.size
          have hb19 : Below w10.heap.size w10 w19 := HBR.out.trans ((hb18.trans (b19.mono hb18.size)).mono HBR.out.size)
          have qA := six_of k19
          have qY2 := six_of (HY.out _ hb19).blk
          have SA := Lib.hid (same_any 4 4 _ _ _ _ y y w19 hA19 (HY.out _ hb19).nod (fun b hb => hb) (fun b hb => hb))
          clear k19 b19 hA19 hn18 hb18 qY qX
          go_wp2_with (first
            | (go_at_call 17; (with_reducible refine (SA.out).mono ?_); rintro e w20 ⟨bs, rfl, hbs, hb20⟩; obtain rfl : bs = true := hbs.2 (by first | exact rfl | trivial))
            | (go_at_call 9; (with_reducible refine (AW.out _ (HB10.out.trans ((hb19.trans (hb20.mono hb19.size)).mono HB10.out.size))).mono ?_); rintro e w21 ⟨rfl, hb21⟩))
          go_ret
          have q1 := HB10.out.trans ((hb19.trans (hb20.mono hb19.size)).mono HB10.out.size)
          exact ⟨rfl, q1.trans (hb21.mono q1.size)⟩
  · rw [decide_eq_false h500] at LI
    clear h500
    go_enter Tryd.func4, Tryd.ntmps4
    go_wp2_with (first
      | (go_at_call 10; (with_reducible refine (LI.out _).mono ?_); rintro e w3 ⟨rfl, rfl⟩)
      | (go_at_call 9; (with_reducible refine (AW.out _ hB).mono ?_); rintro e w4 ⟨rfl, hb4⟩))
    go_ret
    exact ⟨rfl, hb4⟩
end Go.Proofs.YthcgkkafbobfoaaDoor
