/- The table of scales out of what the rows list. -/
import Derived.Test.YtmlmdidaldcoiaaGreatDoorMff
import Derived.Test.YtmlmdidaldcoiaaGreatDoorVhx
import GoSem.PinnedTables
import Derived.Lay
import Derived.KernelRfl
import Derived.LaidMore
import Derived.Lib.TrailingZeros
namespace Go.Proofs.YtmlmdidaldcoiaaGreatDoor
open Go Go.RowKit Go.Shelf Go.Lib
set_option linter.unusedVariables false

/-- What the rows list for the scales. -/
def scI (i : Nat) : DataW Unit := if (scR i).widths.length = 0 then .nil else .slice ((scR i).widths.map fun z => .lit (.int .i64 z)) []
def scD : List (DataW Unit) := (List.range 7).map fun i => .agg [.lit (.int .i64 (scR i).kind), .lit (.int .i64 (scR i).least), .lit (.int .i64 (scR i).count), .lit (.int .u8 (scR i).first), .lit (.int .u8 (scR i).wide), scI i]
theorem laid_isC : (Rows.laid_keyevent_pack_scales : DataW Unit) = .agg scD := by kernel_rfl
theorem mcells_scl : Tryz.prog.cellsOf 229 = 6 := by kernel_rfl
theorem mcells_int : Tryz.prog.cellsOf 3 = 1 := by kernel_rfl
theorem mcells_u8 : Tryz.prog.cellsOf 5 = 1 := by kernel_rfl
theorem mcells_ints : Tryz.prog.cellsOf 22 = 1 := by kernel_rfl
theorem msix_list {α : Type} {l : List α} (h : l.length = 6) : ∃ a b c d e f, l = [a, b, c, d, e, f] := by
 match l, h with
 | [a, b, c, d, e, f], _ => exact ⟨a, b, c, d, e, f, rfl⟩
theorem mints_of_reads {W : World} {fuel : Nat} {v : Value} {l : List Int} {p : List MemPlace} (h : DataW.trod (fun _ => ()) Tryz.prog W 0 (fun _ => true) false fuel 22 [v] = some (.slice (l.map fun z => (.lit (.int .i64 z) : DataW Unit)) [], p)) (hl : 0 < l.length) : IntsAt W.heap.size W v l := by
 obtain ⟨a, cap, hv, hle, hall⟩ := open_row Tryz.underlying22 mcells_int h
 rw [List.length_map] at hv hle
 cases hv
 have hc : ∀ i, i < l.length → W.cell? (a.add i) = some (.int .i64 (l.getD i 0)) := by
  intro i hi
  obtain ⟨v, n, q, hcell, htr⟩ := hall i (.lit (.int .i64 (l.getD i 0))) (by rw [List.getElem?_map, List.getElem?_eq_getElem hi]; simp [List.getD, List.getElem?_eq_getElem hi])
  obtain ⟨z, e1, f1, _⟩ := DataW.trod_int Tryz.underlying3 htr
  cases e1
  simp only [Prod.mk.injEq, DataW.lit.injEq, Lit.int.injEq, true_and] at f1
  rw [hcell, ← f1.1]
 have hc0 := hc 0 hl
 obtain ⟨b, off, spot⟩ := a
 have hspot : spot = none := by simpa [Addr.add] using World.cell?_spot hc0
 subst hspot
 refine ⟨_, cap, rfl, hle, fun i hi => ?_⟩
 have h1 := hc i hi
 rw [Addr.add_lit] at h1
 exact ⟨b, off, rfl, cell_lt h1, h1⟩
theorem mnil_of_reads {W : World} {fuel : Nat} {v : Value} {p : List MemPlace} (h : DataW.trod (fun _ => ()) Tryz.prog W 0 (fun _ => true) false fuel 22 [v] = some (.nil, p)) : v = .slice none 0 0 := by
 rcases DataW.trod_slice Tryz.underlying22 h with ⟨h1, -⟩ | ⟨a, len, cap, elems, rest, n, _, _, hx, _⟩
 ·exact (List.cons.inj h1).1
 ·simp at hx
theorem mint_one {W : World} {fuel : Nat} {q : IntKind} {t : TypeId} {c : Value} {z : Int} {p : List MemPlace} (ht : Tryz.prog.underlying t = some (.int q)) (h : DataW.trod (fun _ => ()) Tryz.prog W 0 (fun _ => true) false fuel t [c] = some ((.lit (.int q z) : DataW Unit), p)) : c = .int q z := by
 obtain ⟨z', e1, f1, _⟩ := DataW.trod_int ht h
 cases e1
 simp only [Prod.mk.injEq, DataW.lit.injEq, Lit.int.injEq, true_and] at f1
 rw [← f1.1]
theorem scl_row {W : World} {fuel : Nat} {cs : List Value} {r : ScR} {d : DataW Unit} {p : List MemPlace}
  (h : DataW.trod (fun _ => ()) Tryz.prog W 0 (fun _ => true) false fuel 229 cs = some (.agg [.lit (.int .i64 r.kind), .lit (.int .i64 r.least), .lit (.int .i64 r.count), .lit (.int .u8 r.first), .lit (.int .u8 r.wide), d], p)) :
  ∃ v n q, cs = [.int .i64 r.kind, .int .i64 r.least, .int .i64 r.count, .int .u8 r.first, .int .u8 r.wide, v] ∧ DataW.trod (fun _ => ()) Tryz.prog W 0 (fun _ => true) false n 22 [v] = some (d, q) := by
 obtain ⟨xs, n, hfu, hx, hlen, hxl, hall⟩ := DataW.trod_struct Tryz.underlying229 h
 rw [mcells_scl] at hlen
 obtain ⟨c0, c1, c2, c3, c4, c5, rfl⟩ := msix_list hlen
 obtain ⟨y0, y1, y2, y3, y4, y5, rfl⟩ := msix_list (show xs.length = 6 from hxl)
 simp only [List.map_cons, List.map_nil, Prod.mk.injEq, DataW.agg.injEq, List.cons.injEq, and_true] at hx
 obtain ⟨⟨e0, e1, e2, e3, e4, e5⟩, -⟩ := hx
 have t0 : DataW.trod (fun _ => ()) Tryz.prog W 0 (fun _ => true) false n 3 (([c0, c1, c2, c3, c4, c5].drop 0).take (Tryz.prog.cellsOf 3)) = some y0 := hall 0 _ rfl
 have t1 : DataW.trod (fun _ => ()) Tryz.prog W 0 (fun _ => true) false n 3 (([c0, c1, c2, c3, c4, c5].drop 1).take (Tryz.prog.cellsOf 3)) = some y1 := hall 1 _ rfl
 have t2 : DataW.trod (fun _ => ()) Tryz.prog W 0 (fun _ => true) false n 3 (([c0, c1, c2, c3, c4, c5].drop 2).take (Tryz.prog.cellsOf 3)) = some y2 := hall 2 _ rfl
 have t3 : DataW.trod (fun _ => ()) Tryz.prog W 0 (fun _ => true) false n 5 (([c0, c1, c2, c3, c4, c5].drop 3).take (Tryz.prog.cellsOf 5)) = some y3 := hall 3 _ rfl
 have t4 : DataW.trod (fun _ => ()) Tryz.prog W 0 (fun _ => true) false n 5 (([c0, c1, c2, c3, c4, c5].drop 4).take (Tryz.prog.cellsOf 5)) = some y4 := hall 4 _ rfl
 have t5 : DataW.trod (fun _ => ()) Tryz.prog W 0 (fun _ => true) false n 22 (([c0, c1, c2, c3, c4, c5].drop 5).take (Tryz.prog.cellsOf 22)) = some y5 := hall 5 _ rfl
 rw [mcells_int] at t0 t1 t2
 rw [mcells_u8] at t3 t4
 rw [mcells_ints] at t5
 obtain ⟨d0, p0⟩ := y0
 obtain ⟨d1, p1⟩ := y1
 obtain ⟨d2, p2⟩ := y2
 obtain ⟨d3, p3⟩ := y3
 obtain ⟨d4, p4⟩ := y4
 obtain ⟨d5, p5⟩ := y5
 dsimp only at e0 e1 e2 e3 e4 e5
 subst e0 e1 e2 e3 e4 e5
 have f0 := mint_one Tryz.underlying3 (show DataW.trod (fun _ => ()) Tryz.prog W 0 (fun _ => true) false n 3 [c0] = _ from t0)
 have f1 := mint_one Tryz.underlying3 (show DataW.trod (fun _ => ()) Tryz.prog W 0 (fun _ => true) false n 3 [c1] = _ from t1)
 have f2 := mint_one Tryz.underlying3 (show DataW.trod (fun _ => ()) Tryz.prog W 0 (fun _ => true) false n 3 [c2] = _ from t2)
 have f3 := mint_one Tryz.underlying5 (show DataW.trod (fun _ => ()) Tryz.prog W 0 (fun _ => true) false n 5 [c3] = _ from t3)
 have f4 := mint_one Tryz.underlying5 (show DataW.trod (fun _ => ()) Tryz.prog W 0 (fun _ => true) false n 5 [c4] = _ from t4)
 exact ⟨c5, n, p5, by rw [f0, f1, f2, f3, f4], t5⟩
theorem scAll_at (v : Nat → Value) (i q : Nat) (hi : i < 7) (hq : q < 6) : (scAll v)[i * 6 + q]? = (scC i (v i))[q]? := by
 obtain rfl | rfl | rfl | rfl | rfl | rfl | rfl : i = 0 ∨ i = 1 ∨ i = 2 ∨ i = 3 ∨ i = 4 ∨ i = 5 ∨ i = 6 := by omega
 all_goals
  obtain rfl | rfl | rfl | rfl | rfl | rfl : q = 0 ∨ q = 1 ∨ q = 2 ∨ q = 3 ∨ q = 4 ∨ q = 5 := by omega
  all_goals rfl
theorem scl_of_reads {W : World} {cs : Array Value} {fuel : Nat} {p : List MemPlace} (hv : W.var? Tryz.prog "keyevent/pack.scales" = some cs) (h : DataW.trod (fun _ => ()) Tryz.prog W 0 (fun _ => true) false fuel 230 cs.toList = some (Rows.laid_keyevent_pack_scales, p)) : Scl W := by
 rw [laid_isC] at h
 obtain ⟨xs, m, rfl, hx, hl, hxl, hall⟩ := DataW.trod_array Tryz.underlying230 h
 have hcc : ∀ j, W.cell? ⟨6, j, none⟩ = cs[j]? := fun j => World.var?_cell (g := 6) (by kernel_rfl) hv j
 have key : ∀ i, i < 7 → ∃ v n q, (cs.toList.drop (i * 6)).take 6 = [.int .i64 (scR i).kind, .int .i64 (scR i).least, .int .i64 (scR i).count, .int .u8 (scR i).first, .int .u8 (scR i).wide, v] ∧ DataW.trod (fun _ => ()) Tryz.prog W 0 (fun _ => true) false n 22 [v] = some (scI i, q) := by
  intro i hi
  have hi' := hall i hi
  rw [mcells_scl] at hi'
  have hxs : xs.map (·.1) = scD := by
   have := congrArg Prod.fst hx
   simpa using this.symm
  obtain ⟨b, hb⟩ : ∃ b, xs[i]? = some b := ⟨xs[i]'(by omega), List.getElem?_eq_getElem (by omega)⟩
  rw [hb] at hi'
  have hb1 : b.1 = .agg [.lit (.int .i64 (scR i).kind), .lit (.int .i64 (scR i).least), .lit (.int .i64 (scR i).count), .lit (.int .u8 (scR i).first), .lit (.int .u8 (scR i).wide), scI i] := by
   have := congrArg (·[i]?) hxs
   simp only [List.getElem?_map, hb, Option.map_some] at this
   simp only [scD, List.getElem?_map, List.getElem?_range hi, Option.map_some, Option.some.injEq] at this
   exact this
  obtain ⟨d, q⟩ := b
  simp only at hb1
  subst hb1
  exact scl_row hi'
 have hcell : ∀ i, i < 7 → ∀ q, q < 6 → cs[i * 6 + q]? = ((cs.toList.drop (i * 6)).take 6)[q]? := fun i hi q hq => by
  rw [List.getElem?_take, if_pos hq, List.getElem?_drop]; simp
 have key2 : ∀ i, i < 7 → ∃ n q, DataW.trod (fun _ => ()) Tryz.prog W 0 (fun _ => true) false n 22 [cs[i * 6 + 5]?.getD (.slice none 0 0)] = some (scI i, q) ∧ ∀ q, q < 6 → cs[i * 6 + q]? = (scC i (cs[i * 6 + 5]?.getD (.slice none 0 0)))[q]? := by
  intro i hi
  obtain ⟨v, n, p', h1, h2⟩ := key i hi
  have h5 := hcell i hi 5 (by omega)
  rw [h1] at h5
  have h5 : cs[i * 6 + 5]? = some v := h5
  rw [h5]
  refine ⟨n, p', h2, fun q hq => ?_⟩
  rw [hcell i hi q hq, h1]
  rfl
 refine ⟨fun i => cs[i * 6 + 5]?.getD (.slice none 0 0), ?_, Nat.le_refl _, fun j u hu => ?_, fun i hi => ?_⟩
 ·obtain ⟨n, q, h1, h2⟩ := key2 0 (by omega)
  have := h2 0 (by omega)
  rw [← hcc] at this
  exact cell_lt this
 ·have hj : j < 42 := lt_of_some hu
  rw [hcc, ← hu]
  obtain ⟨n, q, h1, h2⟩ := key2 (j / 6) (by omega)
  have := h2 (j % 6) (by omega)
  rw [← scAll_at (fun i => cs[i * 6 + 5]?.getD (.slice none 0 0)) (j / 6) (j % 6) (by omega) (by omega)] at this
  rw [show j / 6 * 6 + j % 6 = j by omega] at this
  exact this
 ·obtain ⟨n, q, h1, -⟩ := key2 i hi
  show IntsAt W.heap.size W (cs[i * 6 + 5]?.getD _) _
  unfold scI at h1
  by_cases hz : (scR i).widths.length = 0
  ·rw [if_pos hz] at h1
   rw [mnil_of_reads h1, List.length_eq_zero_iff.1 hz]
   exact ⟨none, 0, rfl, Nat.le_refl _, fun j hj => absurd hj (Nat.not_lt_zero _)⟩
  ·rw [if_neg hz] at h1
   exact mints_of_reads h1 (by omega)
end Go.Proofs.YtmlmdidaldcoiaaGreatDoor
/- The door of the statements that read all three serialisations: eight variables. -/
namespace Go.Proofs.YtmlmdidaldcoiaaGreatDoor
open Go Go.RowKit Go.Shelf Go.Lib
set_option linter.unusedVariables false

theorem jt8_of_laid {w : World} (h : laidMetH Tryz.prog [("math/bits.deBruijn32tab", Rows.laid_math_bits_deBruijn32tab), ("math/bits.deBruijn64tab", Rows.laid_math_bits_deBruijn64tab), ("internal/strconv.uint64pow10", Rows.laid_internal_strconv_uint64pow10), ("unicode/utf8.acceptRanges", Rows.laid_unicode_utf8_acceptRanges), ("strconv.ErrRange", Rows.laid_strconv_ErrRange), ("strconv.ErrSyntax", Rows.laid_strconv_ErrSyntax), ("keyevent/pack.scales", Rows.laid_keyevent_pack_scales), ("unicode/utf8.first", Rows.laid_unicode_utf8_first)] w) : Ftab w := by
 rw [MakeChecks.laidMetH_plain _ _ _ (by kernel_rfl)] at h
 obtain ⟨a, sa, hva, -, -, -⟩ := laid_sentinel h.tail.tail.tail.tail (g := 4) (ti := 95) (tp := 234) (te := 236) (ts := 9) (by kernel_rfl) (by kernel_rfl) Tryz.underlying95 row_err Tryz.underlying234 Tryz.underlying236 rfl rfl Tryz.underlying9 (by kernel_rfl) (by kernel_rfl)
 obtain ⟨b, sb, hvb, -, -, -⟩ := laid_sentinel h.tail.tail.tail.tail.tail (g := 3) (ti := 95) (tp := 234) (te := 236) (ts := 9) (by kernel_rfl) (by kernel_rfl) Tryz.underlying95 row_err Tryz.underlying234 Tryz.underlying236 rfl rfl Tryz.underlying9 (by kernel_rfl) (by kernel_rfl)
 have e1 : w.cell? ⟨3, 0, none⟩ = some (.iface 234 (.pointer (some b))) := by
  have := World.var?_cell (g := 3) (by kernel_rfl) hvb 0
  simpa using this
 have e2 : w.cell? ⟨4, 0, none⟩ = some (.iface 234 (.pointer (some a))) := by
  have := World.var?_cell (g := 4) (by kernel_rfl) hva 0
  simpa using this
 have hs : Scl w := by
  obtain ⟨g', t', cs, fuel, p, hg', ht', hvar, hd⟩ := Lib.laidMet.reads h (.tail _ (.tail _ (.tail _ (.tail _ (.tail _ (.tail _ (.head _)))))))
  have e1 : Tryz.prog.globalNamed "keyevent/pack.scales" = some 6 := by kernel_rfl
  obtain rfl := Option.some.inj (e1.symm.trans hg')
  have e2 : (Tryz.prog.globals[6]?).map (·.type) = some 230 := by kernel_rfl
  obtain rfl := Option.some.inj (e2.symm.trans ht')
  exact scl_of_reads hvar hd
 exact ⟨Utab.of (jlaid_first ▸ Lib.laidMet.reads h (.tail _ (.tail _ (.tail _ (.tail _ (.tail _ (.tail _ (.tail _ (.head _))))))))) (jlaid_accept ▸ Lib.laidMet.reads h (.tail _ (.tail _ (.tail _ (.head _))))), jitab_of h.tail.tail, ⟨⟨_, _, e1⟩, ⟨_, _, e2⟩⟩, hs⟩
theorem door_met8 (os : Os) (args : Array Value) : laidMetH Tryz.prog [("math/bits.deBruijn32tab", Rows.laid_math_bits_deBruijn32tab), ("math/bits.deBruijn64tab", Rows.laid_math_bits_deBruijn64tab), ("internal/strconv.uint64pow10", Rows.laid_internal_strconv_uint64pow10), ("unicode/utf8.acceptRanges", Rows.laid_unicode_utf8_acceptRanges), ("strconv.ErrRange", Rows.laid_strconv_ErrRange), ("strconv.ErrSyntax", Rows.laid_strconv_ErrSyntax), ("keyevent/pack.scales", Rows.laid_keyevent_pack_scales), ("unicode/utf8.first", Rows.laid_unicode_utf8_first)] ((World.laidAll Tryz.prog os [("math/bits.deBruijn32tab", Rows.laid_math_bits_deBruijn32tab), ("math/bits.deBruijn64tab", Rows.laid_math_bits_deBruijn64tab), ("internal/strconv.uint64pow10", Rows.laid_internal_strconv_uint64pow10), ("unicode/utf8.acceptRanges", Rows.laid_unicode_utf8_acceptRanges), ("strconv.ErrRange", Rows.laid_strconv_ErrRange), ("strconv.ErrSyntax", Rows.laid_strconv_ErrSyntax), ("keyevent/pack.scales", Rows.laid_keyevent_pack_scales), ("unicode/utf8.first", Rows.laid_unicode_utf8_first)]).forCall (fun _ _ => 0) ⟨#[], args, []⟩).memory := by
 rw [MakeChecks.laidMetH_plain _ _ _ (by kernel_rfl)]
 exact laidMet_laidAll _ (by kernel_rfl) (by kernel_rfl)
end Go.Proofs.YtmlmdidaldcoiaaGreatDoor
/- The door of VersionFits and VersionSizes: eight variables. -/
namespace Go.Proofs.YtmlmdidaldcoiaaGreatDoor
open Go Go.RowKit Go.Shelf Go.Lib
set_option linter.unusedVariables false

theorem vlaid_64z : (Rows.laid_math_bits_deBruijn64tab : DataW Unit) = tabData .u8 (Lib.deBruijn64tab.map Int.ofNat) := by kernel_rfl
theorem v8_of_laid {w : World} (h : laidMetH Tryz.prog [("math/bits.deBruijn32tab", Rows.laid_math_bits_deBruijn32tab), ("math/bits.deBruijn64tab", Rows.laid_math_bits_deBruijn64tab), ("internal/strconv.uint64pow10", Rows.laid_internal_strconv_uint64pow10), ("unicode/utf8.acceptRanges", Rows.laid_unicode_utf8_acceptRanges), ("strconv.ErrRange", Rows.laid_strconv_ErrRange), ("strconv.ErrSyntax", Rows.laid_strconv_ErrSyntax), ("keyevent/pack.scales", Rows.laid_keyevent_pack_scales), ("unicode/utf8.first", Rows.laid_unicode_utf8_first)] w) : Ftab w ∧ DB w := by
 refine ⟨jt8_of_laid h, ?_⟩
 rw [MakeChecks.laidMetH_plain _ _ _ (by kernel_rfl)] at h
 have h2 := h.tail
 rw [vlaid_64z] at h2
 have ht : TabIs Tryz.prog w "math/bits.deBruijn64tab" .u8 (Lib.deBruijn64tab.map Int.ofNat) := tabIs_of_head (g := 8) (t := 238) (e := 5) (n := 64) (by kernel_rfl) (by kernel_rfl) Tryz.underlying238 Tryz.underlying5 (by kernel_rfl) (by kernel_rfl) h2
 have e2 := World.var?_cell (g := 8) (by kernel_rfl) ht 15
 exact e2.trans (by kernel_rfl)
end Go.Proofs.YtmlmdidaldcoiaaGreatDoor
