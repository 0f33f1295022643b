/- The contract of rawOf of package primitive: the raw bytes behind a text that has the code and the size of a layout. -/
import Derived.Test.YtpophimnoakinaaDoorHashe
import Derived.Test.YtpophimnoakinaaDoorQenc
import Derived.LaidMore
import Derived.Lib.LaidTab
import Derived.Lib.LaidU8
import Derived.Stop.Joined
import Derived.OpenShut
namespace Go.Proofs.YtpophimnoakinaaDoor
open Go.ChangeShapes Go.WideShapes Go.ChangeAt Go.RowKit
set_option linter.unusedVariables false
set_option linter.unusedSimpArgs false

theorem Tab.lt {w : World} (h : Tab w) : 4 < w.heap.size := cell_lt (h 0 (by omega))
theorem Tab.below {w w' : World} (h : Tab w) {B : Nat} (hB : 4 < B) (hb : Below B w w') : Tab w' := fun i hi => (hb.cell (p := ⟨4, i, none⟩) hB).trans (h i hi)
theorem Tab.go {w w' : World} (h : Tab w) (hb : Below w.heap.size w w') : Tab w' := h.below h.lt hb

set_option maxHeartbeats 1600000 in
set_option maxRecDepth 100000 in
theorem yraw_of (cs x R : ByteArray) (b l : Nat) (E : Int) (w : World) (hb : b ≤ 1000) (hl : (3 - b % 3) % 3 = l) (hc : cs.size ≤ x.size) (hx : x.size ≤ 1000) (hT : Tab w)
    (hD : ∀ wx : World, Tab wx → Calls Tryd.prog 99 #[.string (({ data := #[65, 65] } : ByteArray).extract 0 l ++ x.extract cs.size x.size)] wx fun e w' => e = .returned (.tuple #[.string R, .int .i64 E]) ∧ Below wx.heap.size wx w')
    (h4 : E ≠ 0 → E = 4) (hR : E = 0 → l ≤ R.size) :
    Calls Tryd.prog 95 #[.agg #[.string cs, .int .i64 (b : Int)], .string x] w fun e w' => e = .returned (if E ≠ 0 ∨ R.extract 0 l ≠ (⟨#[0, 0]⟩ : ByteArray).extract 0 l then .tuple #[.string ⟨#[]⟩, .int .i64 4] else .tuple #[.string (R.extract l R.size), .int .i64 0]) ∧ Below w.heap.size w w' := by
  obtain ⟨V, hV⟩ : ∃ V : Value, V = (if E ≠ 0 ∨ R.extract 0 l ≠ (⟨#[0, 0]⟩ : ByteArray).extract 0 l then .tuple #[.string ⟨#[]⟩, .int .i64 4] else .tuple #[.string (R.extract l R.size), .int .i64 0]) := ⟨_, rfl⟩
  rw [← hV]
  have HV := Lib.hid hV
  clear hV
  have Ld := Lib.hid (fun (wx : World) => ylead_any cs b l wx hb hl)
  have hl2 : l ≤ 2 := by omega
  have hl0 : (0 : Int) ≤ (l : Int) := by omega
  have hl2' : (l : Int) ≤ 2 := by omega
  have hc' : (cs.size : Int) ≤ (x.size : Int) := by omega
  have HD := Lib.hid hD
  have HR := Lib.hid hR
  have H4 := Lib.hid h4
  have bx := (Below.refl w.heap.size w).alloc (o := .cells #[.string cs, .int .i64 (b : Int)] 83) (Nat.le_refl _)
  have HT := Lib.hid (show Tab (w.alloc (.cells #[.string cs, .int .i64 (b : Int)] 83)).drew from hT.go bx.drew)
  have k0 := two_new w (.string cs) (.int .i64 (b : Int)) 83
  have g0 : w.heap.size < (w.alloc (.cells #[.string cs, .int .i64 (b : Int)] 83)).heap.size := by simp
  have hcat : ¬ 9223372036854775807 < l + (x.size - cs.size) := by omega
  clear hD hR h4 hl hT
  go_enter Tryd.func95, Tryd.ntmps95
  go_wp2
  go_region_held3 (fun w' => w'.cell? ⟨w.heap.size, 0, none⟩ = some (.string cs) ∧ w'.cell? ⟨w.heap.size, 1, none⟩ = some (.int .i64 (b : Int))) (first | exact k0 | exact k1 | exact k2)
    (first
      | (go_at_call 77; refine (Ld.out _).mono ?_; rintro e w1 ⟨rfl, hb1⟩; have k1 := two_keep hb1 g0 k0; have g1 := Nat.lt_of_lt_of_le g0 hb1.size; have T1 := Lib.hid (HT.out.go hb1))
      | (go_at_call 99; refine (HD.out _ T1.out).mono ?_; rintro e w2 ⟨rfl, hb2⟩; have k2 := two_keep hb2 g1 k1; have g2 := Nat.lt_of_lt_of_le g1 hb2.size))
  have b2 := (bx.drew.trans (hb1.mono (Nat.le_of_lt g0))).trans (hb2.mono (Nat.le_of_lt g1))
  clear k0 k1 g0 g1 bx hb1 hb2 T1 HT
  by_cases he : E = 0
  · have hRl : (l : Int) ≤ (R.size : Int) := by have := HR.out he; omega
    by_cases hz : R.extract 0 l = ({ data := #[0, 0] } : ByteArray).extract 0 l
    · have hzq := same_str hz
      have hv := HV.out
      rw [if_neg (by simp [he, hz])] at hv
      have HW := Lib.hid hv
      clear hv
      have hed : (E != 0) = false := by simp [he]
      clear hz
      go_wp2
      go_region_held3 (fun w' => w'.cell? ⟨w.heap.size, 0, none⟩ = some (.string cs) ∧ w'.cell? ⟨w.heap.size, 1, none⟩ = some (.int .i64 (b : Int))) (first | exact k2 | exact k3 | exact k4)
        (first
          | (go_at_call 77; refine (Ld.out _).mono ?_; rintro e w3 ⟨rfl, hb3⟩; have k3 := two_keep hb3 g2 k2; have g3 := Nat.lt_of_lt_of_le g2 hb3.size)
          | (go_at_call 77; refine (Ld.out _).mono ?_; rintro e w4 ⟨rfl, hb4⟩; have k4 := two_keep hb4 g3 k3; have g4 := Nat.lt_of_lt_of_le g3 hb4.size))
      have b4 := (b2.drew.trans (hb3.mono (Nat.le_of_lt g2))).trans (hb4.mono (Nat.le_of_lt g3))
      clear b2 hb3 hb4 k2 k3 g2 g3
      go_wp2_with (go_at_call 77; (with_reducible refine (Ld.out _).mono ?_); rintro e w5 ⟨rfl, hb5⟩)
      go_ret2
      exact ⟨by rw [HW.out]; rfl, b4.trans (hb5.mono (Nat.le_of_lt g4))⟩
    · have hzq := other_str hz
      have hv := HV.out
      rw [if_pos (.inr hz)] at hv
      have HW := Lib.hid hv
      clear hv
      have hed : (E != 0) = false := by simp [he]
      clear hz
      go_wp2
      go_region_held3 (fun w' => w'.cell? ⟨w.heap.size, 0, none⟩ = some (.string cs) ∧ w'.cell? ⟨w.heap.size, 1, none⟩ = some (.int .i64 (b : Int))) (first | exact k2 | exact k3 | exact k4)
        (first
          | (go_at_call 77; refine (Ld.out _).mono ?_; rintro e w3 ⟨rfl, hb3⟩; have k3 := two_keep hb3 g2 k2; have g3 := Nat.lt_of_lt_of_le g2 hb3.size)
          | (go_at_call 77; refine (Ld.out _).mono ?_; rintro e w4 ⟨rfl, hb4⟩; have k4 := two_keep hb4 g3 k3; have g4 := Nat.lt_of_lt_of_le g3 hb4.size))
      have b4 := (b2.drew.trans (hb3.mono (Nat.le_of_lt g2))).trans (hb4.mono (Nat.le_of_lt g3))
      clear b2 hb3 hb4 k2 k3 g2 g3
      go_wp2
      go_ret2
      exact ⟨by rw [HW.out]; rfl, b4⟩
  · have hv := HV.out
    rw [if_pos (.inl he)] at hv
    have HW := Lib.hid hv
    clear hv
    have hed : (E != 0) = true := by simp [he]
    have h4 := H4.out he
    subst h4
    go_wp2
    go_ret2
    exact ⟨by rw [HW.out]; rfl, b2⟩

end Go.Proofs.YtpophimnoakinaaDoor
/- The four tables of base64, primitive and hash out of what the rows list; the heap that the program's own start-up leaves meets the condition. -/
namespace Go.Proofs.YtpophimnoakinaaDoor
open Go.ChangeShapes Go.WideShapes Go.ChangeAt Go.RowKit
set_option linter.unusedVariables false
set_option linter.unusedSimpArgs false

theorem own : ownKnob Tryd.prog.godebug = none := by kernel_rfl
theorem laidOut : laidOutB Tryd.prog = true := by kernel_rfl
/-- The numbers that the rows list for the table are those of 'val1'. -/
def tabL : List Int := (List.range 128).map fun i => (val1 i : Int)
theorem laid_is : (Rows.laid_keyevent_base64_values : DataW Unit) = Lib.tabData .u8 tabL := by kernel_rfl
/-- What the rows list for the layouts. -/
def layD : List (DataW Unit) := (List.range 9).map fun i => .agg [.lit (.string (codeL i)), .lit (.int .i64 (rawN i))]
theorem laid_isL : (Rows.laid_keyevent_primitive_layouts : DataW Unit) = .agg layD := by kernel_rfl
theorem cells_lay : Tryd.prog.cellsOf 83 = 2 := by kernel_rfl
theorem cells_str : Tryd.prog.cellsOf 9 = 1 := by kernel_rfl
theorem cells_int : Tryd.prog.cellsOf 3 = 1 := by kernel_rfl
theorem one_of {cs : List Value} {k : Nat} {v : Value} (h : (cs.drop k).take 1 = [v]) : cs[k]? = some v := by
  have := congrArg (·[0]?) h
  simpa [List.getElem?_take, List.getElem?_drop] using this
/-- A row of the table, cell for cell. -/
theorem lay_row {W : World} {enc : TypeId × Value → Unit} {base : Nat} {sp : Nat → Bool} {held : Bool} {fuel : Nat} {cs : List Value} {c : List UInt8} {r : Nat} {p : List MemPlace}
    (h : DataW.trod enc Tryd.prog W base sp held fuel 83 cs = some (.agg [.lit (.string c), .lit (.int .i64 r)], p)) : cs[0]? = some (.string ⟨c.toArray⟩) ∧ cs[1]? = some (.int .i64 r) := by
  obtain ⟨y0, y1, n, hx, hl, h0, h1⟩ := trod_struct2 Tryd.underlying83 h
  simp only [cells_str, cells_int] at h0 h1
  obtain ⟨s, e0, f0, _⟩ := DataW.trod_string Tryd.underlying9 h0
  obtain ⟨z, e1, f1, _⟩ := DataW.trod_int Tryd.underlying3 h1
  subst f0 f1
  simp only [Prod.mk.injEq, DataW.agg.injEq, List.cons.injEq, DataW.lit.injEq, Lit.string.injEq, Lit.int.injEq, true_and, and_true] at hx
  obtain ⟨⟨hs, hz⟩, -⟩ := hx
  refine ⟨?_, ?_⟩
  · rw [one_of e0, hs]
  · rw [one_of e1, hz]
theorem lay_of_reads {W : World} {cs : Array Value} {fuel : Nat} {p : List MemPlace} (hv : W.var? Tryd.prog "keyevent/primitive.layouts" = some cs) (h : DataW.trod (fun _ => ()) Tryd.prog W 0 (fun _ => true) false fuel 96 cs.toList = some (Rows.laid_keyevent_primitive_layouts, p)) : Lay W := by
  rw [laid_isL] at h
  obtain ⟨xs, m, rfl, hx, hl, hxl, hall⟩ := DataW.trod_array Tryd.underlying96 h
  intro i hi
  have hi' := hall i hi
  rw [cells_lay] at hi'
  have hxs : xs.map (·.1) = layD := by
    have := congrArg Prod.fst hx
    simpa using this.symm
  obtain ⟨b, hb⟩ : ∃ b, xs[i]? = some b := ⟨xs[i]'(by omega), List.getElem?_eq_getElem (by omega)⟩
  rw [hb] at hi'
  have hb1 : b.1 = .agg [.lit (.string (codeL i)), .lit (.int .i64 (rawN i))] := by
    have := congrArg (·[i]?) hxs
    simp only [List.getElem?_map, hb, Option.map_some] at this
    simp only [layD, List.getElem?_map, List.getElem?_range hi, Option.map_some, Option.some.injEq] at this
    exact this
  obtain ⟨d, q⟩ := b
  simp only at hb1
  subst hb1
  obtain ⟨r0, r1⟩ := lay_row hi'
  rw [List.getElem?_take, if_pos (by omega), List.getElem?_drop] at r0 r1
  have c0 := World.var?_cell (g := 1) (by kernel_rfl) hv (i * 2)
  have c1 := World.var?_cell (g := 1) (by kernel_rfl) hv (i * 2 + 1)
  rw [c0, c1]
  exact ⟨by simpa using r0, by simpa using r1⟩
theorem tabIs_of_reads {P : Program} {W : World} {name : String} {k : IntKind} {zs : List Int} {l : List (String × DataW Unit)} {g : Nat} {t e : TypeId} {n : Nat}
    (hg : P.globalNamed name = some g) (hty : (P.globals[g]?).map (·.type) = some t) (ht : P.underlying t = some (.array n e)) (he : P.underlying e = some (.int k)) (hce : P.cellsOf e = 1) (hct : P.cellsOf t = n)
    (h : laidMet P l W) (hm : (name, Lib.tabData k zs) ∈ l) : Lib.TabIs P W name k zs := by
  obtain ⟨g', t', cs, fuel, p, hg', ht', hvar, hd⟩ := Lib.laidMet.reads h hm
  obtain rfl := Option.some.inj (hg.symm.trans hg')
  obtain rfl := Option.some.inj (hty.symm.trans ht')
  unfold Lib.TabIs
  rw [hvar, ← Lib.cells_of_tab ht he hce hct hd]
theorem laid_isK : (Rows.laid_keyevent_hash_roundConstants : DataW Unit) = Lib.tabData .u32 KL := by kernel_rfl
theorem laid_isH : (Rows.laid_keyevent_hash_startSums : DataW Unit) = Lib.tabData .u32 HL := by kernel_rfl
/-- All tables. -/
structure Ktab (w : World) : Prop where
  tab : Tab w
  lay : Lay w
  st : STab w
theorem Ktab.below {w w' : World} (h : Ktab w) (hb : Below w.heap.size w w') : Ktab w' := ⟨Tab.go h.tab hb, h.lay.go hb, h.st.below hb⟩
theorem Ktab.of {w wr : World} {B : Nat} (h : Ktab w) (hb : Below B w wr) (hB : w.heap.size ≤ B) : Ktab wr := h.below (hb.mono hB)
theorem ktab_of_laid {W : World} (h : laidMetH Tryd.prog [("keyevent/base64.values", Rows.laid_keyevent_base64_values), ("keyevent/primitive.layouts", Rows.laid_keyevent_primitive_layouts), ("keyevent/hash.roundConstants", Rows.laid_keyevent_hash_roundConstants), ("keyevent/hash.startSums", Rows.laid_keyevent_hash_startSums)] W) : Ktab W := by
  rw [MakeChecks.laidMetH_plain _ _ _ (by kernel_rfl)] at h
  have hT : Tab W := by
    have h1 := h
    rw [laid_is] at h1
    have hT := Lib.tabIs_of_head (P := Tryd.prog) (g := 4) (t := 104) (e := 5) (n := 128) (by kernel_rfl) (by kernel_rfl) Tryd.underlying104 Tryd.underlying5 (by kernel_rfl) (by kernel_rfl) h1
    intro i hi
    have hc := hT.cell (g := 4) (by kernel_rfl) i (by simp [tabL]; exact hi)
    rw [hc]
    simp [tabL, List.getD, hi]
  have hl : Lay W := by
    obtain ⟨g', t', cs, fuel, p, hg', ht', hvar, hd⟩ := Lib.laidMet.reads h (.tail _ (.head _))
    have e1 : Tryd.prog.globalNamed "keyevent/primitive.layouts" = some 1 := by kernel_rfl
    obtain rfl := Option.some.inj (e1.symm.trans hg')
    have e2 : (Tryd.prog.globals[1]?).map (·.type) = some 96 := by kernel_rfl
    obtain rfl := Option.some.inj (e2.symm.trans ht')
    exact lay_of_reads hvar hd
  refine ⟨hT, hl, ?_⟩
  have h3 := h
  rw [laid_isK, laid_isH] at h3
  have hK := tabIs_of_reads (P := Tryd.prog) (g := 2) (t := 63) (e := 60) (n := 64) (by kernel_rfl) (by kernel_rfl) Tryd.underlying63 Tryd.underlying60 (by kernel_rfl) (by kernel_rfl) h3 (.tail _ (.tail _ (.head _)))
  have hH := tabIs_of_reads (P := Tryd.prog) (g := 0) (t := 61) (e := 60) (n := 8) (by kernel_rfl) (by kernel_rfl) Tryd.underlying61 Tryd.underlying60 (by kernel_rfl) (by kernel_rfl) h3 (.tail _ (.tail _ (.tail _ (.head _))))
  have kt : KTab W := fun i hi => hK.cell (g := 2) (by kernel_rfl) i (by rw [show KL.length = 64 by decide]; exact hi)
  have ht : HTab W := by
    intro j v hv
    have hj : j < HL.length := by
      rcases Nat.lt_or_ge j HL.length with h | h
      · exact h
      · rw [List.getElem?_eq_none (by rw [u32s_length]; exact h)] at hv; cases hv
    rw [u32s_get HL j hj] at hv
    cases hv
    rw [Nat.zero_add]
    exact hH.cell (g := 0) (by kernel_rfl) j hj
  refine ⟨kt, ht, cell_lt (kt 0 (by omega)), ?_⟩
  have := ht 0 _ (u32s_get HL 0 (by decide))
  exact cell_lt this
end Go.Proofs.YtpophimnoakinaaDoor
/- The heap that the program's own start-up leaves meets the condition of the rows of keytree. -/
namespace Go.Proofs.YtpophimnoakinaaDoor
open Go.ChangeShapes Go.WideShapes Go.ChangeAt Go.RowKit
set_option linter.unusedVariables false
theorem door_met (os : Os) (args : Array Value) : laidMetH Tryd.prog [("keyevent/base64.values", Rows.laid_keyevent_base64_values), ("keyevent/primitive.layouts", Rows.laid_keyevent_primitive_layouts), ("keyevent/hash.roundConstants", Rows.laid_keyevent_hash_roundConstants), ("keyevent/hash.startSums", Rows.laid_keyevent_hash_startSums)] ((World.doorLaid Tryd.prog 1988 os).forCall (fun _ _ => 0) ⟨#[], args, []⟩).memory :=
  laidMetH_of_parts3 (fuel := 8) (laidMet_of_run' 8 (by kernel_rfl) (by kernel_rfl)) (by kernel_rfl) (by kernel_rfl)

end Go.Proofs.YtpophimnoakinaaDoor
