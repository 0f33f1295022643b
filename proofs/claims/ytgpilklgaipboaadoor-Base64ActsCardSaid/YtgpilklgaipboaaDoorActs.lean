/- The walk of the statement Base64Acts: whatever the strings and numbers are, the Go text returns true, provided that the table of values reads as the program lays it. -/
import Derived.Test.YtgpilklgaipboaaDoorAwake
import Derived.Test.YtgpilklgaipboaaDoorRefa
import Derived.Test.YtgpilklgaipboaaDoorRefc
import Derived.Test.YtgpilklgaipboaaDoorSpoil
import Derived.Test.YtgpilklgaipboaaDoorSched
namespace Go.Proofs.YtgpilklgaipboaaDoor
open Go.ChangeShapes Go.WideShapes Go.ChangeAt Go.RowKit
set_option linter.unusedVariables false
set_option linter.unusedSimpArgs false

set_option maxRecDepth 100000 in
theorem acts_big (s t : ByteArray) (n k c : Int) (w : World) (hl : 400 < s.size ∨ 400 < t.size) (hs : s.size ≤ maxLen) (ht : t.size ≤ maxLen) :
    Calls Tryd.prog 3 #[.string s, .string t, .int .i64 n, .int .i64 k, .int .u8 c] w fun e w' => e = .returned (.bool true) ∧ Below w.heap.size w w' := by
  unfold maxLen at hs ht
  by_cases h1 : 400 < s.size
  · go_enter Tryd.func3, Tryd.ntmps3
    go_wp2_with (go_at_call 7; refine (awake_any _).mono ?_; rintro e w2 ⟨rfl, hb2⟩)
    go_ret
    exact ⟨rfl, hb2⟩
  · have h2 : 400 < t.size := by omega
    go_enter Tryd.func3, Tryd.ntmps3
    go_wp2_with (go_at_call 7; refine (awake_any _).mono ?_; rintro e w2 ⟨rfl, hb2⟩)
    go_ret
    exact ⟨rfl, hb2⟩

theorem two_of {P : Nat → Prop} {j : Nat} (h : j < 2) (h0 : P 0) (h1 : P 1) : P j := by
  match j, h with
  | 0, _ => exact h0
  | 1, _ => exact h1
theorem row_string {w : World} {g : Nat} {T : TypeId} {cap : Nat} {l : List ByteArray} {b : Nat} (h : Row w g T cap (l.map Value.string)) (hb : ∀ y ∈ l, y.size ≤ b) {j : Nat} (hj : j < l.length) :
    ∃ y : ByteArray, y.size ≤ b ∧ w.cell? ⟨g, j, none⟩ = some (.string y) :=
  ⟨l[j], hb _ (List.getElem_mem hj), h.cellAt (by simp [hj])⟩

/-- A pair of numbers out of a row of pairs. -/
theorem row_pair {w : World} {g : Nat} {T : TypeId} {cap : Nat} {l : List Int} (h : Row w g T cap (l.map (Value.int .i64))) (hb : ∀ y ∈ l, -9223372036854775808 ≤ y ∧ y ≤ 9223372036854775807) {j : Nat} (hj : j * 2 + 1 < l.length) :
    ∃ u v : Int, (-9223372036854775808 ≤ u ∧ u ≤ 9223372036854775807) ∧ (-9223372036854775808 ≤ v ∧ v ≤ 9223372036854775807) ∧ w.cell? ⟨g, j * 2, none⟩ = some (.int .i64 u) ∧ w.cell? ⟨g, j * 2 + 1, none⟩ = some (.int .i64 v) := by
  have h0 : j * 2 < l.length := by omega
  exact ⟨l[j * 2], l[j * 2 + 1], hb _ (List.getElem_mem h0), hb _ (List.getElem_mem hj), h.cellAt (by simp [h0]), h.cellAt (by simp [hj])⟩

set_option maxRecDepth 100000 in
set_option maxHeartbeats 2000000 in
theorem acts_walk (s t : ByteArray) (n k : Int) (c : Nat) (w : World) (hs : s.size ≤ 400) (ht : t.size ≤ 400) (hc : c < 256) (n1 : -9223372036854775808 ≤ n) (n2 : n ≤ 9223372036854775807) (k1 : -9223372036854775808 ≤ k) (k2 : k ≤ 9223372036854775807) (hT : Tab w) (h0 : 1 ≤ w.heap.size) :
    Calls Tryd.prog 3 #[.string s, .string t, .int .i64 n, .int .i64 k, .int .u8 c] w fun e w' => e = .returned (.bool true) ∧ Below w.heap.size w w' := by
  obtain ⟨q, hq⟩ : ∃ q : Nat, (s.size : Int) / 3 = (q : Int) := ⟨s.size / 3, by omega⟩
  have hq133 : q ≤ 133 := by omega
  have hql : q * 3 ≤ s.size := by omega
  obtain ⟨x, hx⟩ : ∃ x, s.extract 0 (q * 3) = x := ⟨_, rfl⟩
  have hxl : x.size ≤ 400 := by rw [← hx, ext_size s _ _ (by omega) hql]; omega
  have htab : ∀ wx : World, Below w.heap.size w wx → Tab wx ∧ 1 ≤ wx.heap.size := fun wx hb => ⟨fun i hi => (hb.cell (p := ⟨0, i, none⟩) (by show (0 : Nat) < _; omega)).trans (hT i hi), Nat.le_trans h0 hb.size⟩
  have HTAB := Lib.hid htab
  clear hT htab
  have henc : ∀ wx : World, Calls Tryd.prog 8 #[.string x] wx fun e w' => e = .returned (.tuple #[.string (encS x.data.toList), .int .i64 (encE x.data.toList)]) ∧ Below wx.heap.size wx w' := fun wx => rencode_full x wx (by unfold maxLen; omega)
  obtain ⟨gd, hgd⟩ : ∃ gd, gd = encS x.data.toList := ⟨_, rfl⟩
  have hgl : gd.size ≤ 600 := by
    have hx3 : x.data.toList.length = 3 * q := by rw [len_is, ← hx, ext_size s _ _ (by omega) hql]; omega
    rw [hgd]
    unfold encS
    rw [if_neg (by omega)]
    show (encL _).toArray.size ≤ _
    rw [List.size_toArray, encL_length q _ hx3]; omega
  rw [← hgd] at henc
  obtain ⟨ge, hge⟩ : ∃ ge, ge = encE x.data.toList := ⟨_, rfl⟩
  rw [← hge] at henc
  have HENC := Lib.hid henc
  clear henc hgd hge
  go_enter Tryd.func3, Tryd.ntmps3
  go_wp2_with (go_at_call 8; refine (HENC.out _).mono ?_; rintro e w1 ⟨rfl, hb1⟩)
  simp only [hx]
  clear hx
  have hrow1 : Row (w1.alloc (Obj.cells #[Value.string s, Value.string x] 9)) w1.heap.size 9 2 ([s, x].map Value.string) := Row.new w1 _ _ _ (by simp) (by simp)
  have hB1 : Below w.heap.size w (w1.alloc (Obj.cells #[Value.string s, Value.string x] 9)) := hb1.alloc hb1.size _
  have hs1 : w.heap.size ≤ w1.heap.size := hb1.size
  clear hb1
  go_loopw [71] (fun i wr => ∃ j : Nat, j ≤ 2 ∧ i = .int .i64 j ∧ Row wr w1.heap.size 9 2 ([s, x].map Value.string) ∧ Below w.heap.size w wr) (fun i _ => 2 - (intOf i).toNat)
  case atStart => exact ⟨0, by omega, rfl, hrow1, hB1⟩
  case round =>
    clear hrow1 hB1
    obtain ⟨j, hj, rfl, hrow, hB⟩ := hrel
    by_cases hlt : j < 2
    · obtain ⟨y, hy, hcell⟩ := row_string hrow (b := 400) (by intro y hy; simp at hy; rcases hy with rfl | rfl <;> omega) (j := j) (by simpa using hlt)
      have henc1 := fun wx => encode_full y wx (by unfold maxLen; omega)
      have henc2 := fun wx => rencode_full y wx (by unfold maxLen; omega)
      have H1 := Lib.hid henc1
      have H2 := Lib.hid henc2
      have HB := Lib.hid hB
      have HR := Lib.hid hrow
      clear henc1 henc2 hB hrow
      go_wp2_with (first
        | (go_at_call 9; refine (H1.out _).mono ?_; rintro e w2 ⟨rfl, hb2⟩)
        | (go_at_call 8; refine (H2.out _).mono ?_; rintro e w3 ⟨rfl, hb3⟩))
      have hb4 := hb2.trans (hb3.mono hb2.size)
      have hB4 := HB.out.trans (hb4.mono HB.out.size)
      have hR4 := HR.out.below hb4 HR.out.lt
      clear hb2 hb3 hb4 hcell
      go_roundw
      case rel => exact ⟨j + 1, by omega, by go_num, hR4, hB4⟩
      case measure => simp [intOf]; try omega
    · have : j = 2 := by omega
      subst this
      clear hrow
      rw [show ((2 : Nat) : Int) = 2 from rfl]
      go_wp2_with fail
      obtain ⟨h, hh⟩ : ∃ h : Nat, (gd.size : Int) / 2 = (h : Int) := ⟨gd.size / 2, by omega⟩
      have hhl : h ≤ gd.size := by omega
      obtain ⟨hf, hhf⟩ : ∃ hf, gd.extract 0 h = hf := ⟨_, rfl⟩
      have hfl : hf.size ≤ 600 := by rw [← hhf, ext_size gd _ _ (by omega) hhl]; omega
      have hwr : IntKind.i64.wrap (h : Int) = (h : Int) := IntWalk.i64_in _ (by omega)
      have hhi : (0 : Int) ≤ (h : Int) := by omega
      have h1i : (h : Int) ≤ (gd.size : Int) := by omega
      refine wp_region_sched [0, 1, 2, 3, 4, 6, 7, 8, 9, 10, 13] [5, 11, 12] (by kernel_rfl) (by kernel_rfl) (fun _ d _ _ _ h => by cases d <;> exact h) ?_
      simp only [opsAt, List.filterMap_cons, List.filterMap_nil, List.getElem?_toArray, List.getElem?_cons_zero, List.getElem?_cons_succ]
      iterate 11 (refine steady_step ?_ ?_ ?_ (fun K hK => ?_); rotate_left; (rfl); (intro w0; go_simp; (try rfl)); (go_simp; refine hK _ ?_; clear hK K))
      refine steady_nil ?_
      clear hwr hhi h1i hh hhf
      have hB' : Below w.heap.size w wr.drew := hB.drew
      generalize wr.drew = wd at hB' ⊢
      clear hB
      have hsp := spoil_any gd n k wd (by omega) n1 n2
      have HSP := Lib.hid hsp
      clear hsp
      go_wp2_with (go_at_call 10; refine (HSP.out).mono ?_; rintro e w2 ⟨r, rfl, hrl, hb2⟩)
      have hB2 := hB'.trans (hb2.mono hB'.size)
      have hrow2 : Row (w2.alloc (Obj.cells #[Value.string t, Value.string gd, Value.string r, Value.string hf] 9)) w2.heap.size 9 4 ([t, gd, r, hf].map Value.string) := Row.new w2 _ _ _ (by simp) (by simp)
      have hB3 : Below w.heap.size w (w2.alloc (Obj.cells #[Value.string t, Value.string gd, Value.string r, Value.string hf] 9)) := hB2.alloc hB2.size _
      have hs2 : w.heap.size ≤ w2.heap.size := hB2.size
      clear hB' hb2 hB2 HSP HENC
      obtain ⟨m0, hm0⟩ : ∃ m : Nat, n % 11 = (m : Int) := ⟨(n % 11).toNat, by omega⟩
      have hmod11 := fun w => mod_any n 11 w (by decide) (by decide) n1 n2
      rw [show ((11 : Nat) : Int) = 11 from rfl, hm0] at hmod11
      have HM11 := Lib.hid hmod11
      clear hmod11 hm0
      go_loopw [107] (fun i wr => ∃ j : Nat, j ≤ 4 ∧ i = .int .i64 j ∧ Row wr w2.heap.size 9 4 ([t, gd, r, hf].map Value.string) ∧ Below w.heap.size w wr) (fun i _ => 4 - (intOf i).toNat)
      case atStart => exact ⟨0, by omega, rfl, hrow2, hB3⟩
      case round =>
        clear hrow2 hB3
        obtain ⟨j, hj, rfl, hrow, hB⟩ := hrel
        by_cases hlt4 : j < 4
        · obtain ⟨y, hy, hcell⟩ := row_string hrow (b := 1000) (by intro y hy; simp at hy; rcases hy with rfl | rfl | rfl | rfl <;> omega) (j := j) (by simpa using hlt4)
          have hyl : y.size ≤ maxLen := by unfold maxLen; omega
          have hdec1 := fun wx (hb : Below w.heap.size w wx) => decode_full y wx hyl (HTAB.out wx hb).2 (HTAB.out wx hb).1
          have hdec2 := fun wx => rdecode_full y wx hyl
          have hzl : (y.extract 0 m0).size ≤ maxLen := by rw [ByteArray.size_extract]; unfold maxLen; omega
          have hpar1 := fun wx (hb : Below w.heap.size w wx) => parse_full (y.extract 0 m0) wx hzl (HTAB.out wx hb).1
          have hpar2 := fun wx => rparse_full (y.extract 0 m0) wx hzl
          have hpar3 := fun wx (hb : Below w.heap.size w wx) => parse_full y wx hyl (HTAB.out wx hb).1
          have hpar4 := fun wx => rparse_full y wx hyl
          have D1 := Lib.hid hdec1
          have D2 := Lib.hid hdec2
          have P1 := Lib.hid hpar1
          have P2 := Lib.hid hpar2
          have P3 := Lib.hid hpar3
          have P4 := Lib.hid hpar4
          have HB := Lib.hid hB
          have HR := Lib.hid hrow
          clear hdec1 hdec2 hpar1 hpar2 hpar3 hpar4 hB hrow hzl hyl
          go_wp2_with (first
            | (go_at_call 11; (with_reducible refine (D1.out _ HB.out).mono ?_); rintro e w3 ⟨rfl, hb3⟩)
            | (go_at_call 12; (with_reducible refine (D2.out _).mono ?_); rintro e w4 ⟨rfl, hb4⟩; have HB4 := Lib.hid (HB.out.trans ((hb3.trans (hb4.mono hb3.size)).mono HB.out.size)))
            | (go_at_call 14; (with_reducible refine (HM11.out _).mono ?_); rintro e w5 ⟨rfl, rfl⟩)
            | (go_at_call 13; first | ((with_reducible refine (P1.out _ HB4.out).mono ?_); rintro e w5 ⟨rfl, rfl⟩) | ((with_reducible refine (P3.out _ HB4.out).mono ?_); rintro e w5 ⟨rfl, rfl⟩))
            | (go_at_call 15; first | ((with_reducible refine (P2.out _).mono ?_); rintro e w5 ⟨rfl, rfl⟩) | ((with_reducible refine (P4.out _).mono ?_); rintro e w5 ⟨rfl, rfl⟩)))
          all_goals
            have hR4 := HR.out.below (hb3.trans (hb4.mono hb3.size)) HR.out.lt
            have hB4 := HB4.out
            clear hb3 hb4 hcell
            go_roundw
            case rel => exact ⟨j + 1, by omega, by go_num, hR4, hB4⟩
            case measure => simp [intOf]; try omega
        · have : j = 4 := by omega
          subst this
          clear hrow
          rw [show ((4 : Nat) : Int) = 4 from rfl]
          obtain ⟨a, ha⟩ : ∃ a : Nat, k % 10 = (a : Int) := ⟨(k % 10).toNat, by omega⟩
          obtain ⟨b, hb⟩ : ∃ b : Nat, n % 5000 = (b : Int) := ⟨(n % 5000).toNat, by omega⟩
          obtain ⟨d, hd⟩ : ∃ d : Nat, k % 3 = (d : Int) := ⟨(k % 3).toNat, by omega⟩
          have ha10 : a < 10 := by omega
          have hb5 : b < 5000 := by omega
          have hd3 : d < 3 := by omega
          have hmod10 := fun w => mod_any k 10 w (by decide) (by decide) k1 k2
          rw [show ((10 : Nat) : Int) = 10 from rfl, ha] at hmod10
          have hmod5 := fun w => mod_any n 5000 w (by decide) (by decide) n1 n2
          rw [show ((5000 : Nat) : Int) = 5000 from rfl, hb] at hmod5
          have hmod3 := fun w => mod_any k 3 w (by decide) (by decide) k1 k2
          rw [show ((3 : Nat) : Int) = 3 from rfl, hd] at hmod3
          have HM10 := Lib.hid hmod10
          have HM5 := Lib.hid hmod5
          have HM3 := Lib.hid hmod3
          clear ha hb hd hmod10 hmod5 hmod3
          go_wp2_with (go_at_call 14; first | ((with_reducible refine (HM10.out _).mono ?_); rintro e w5 ⟨rfl, rfl⟩) | ((with_reducible refine (HM5.out _).mono ?_); rintro e w5 ⟨rfl, rfl⟩) | ((with_reducible refine (HM3.out _).mono ?_); rintro e w5 ⟨rfl, rfl⟩))
          have hrow3 : Row (wr.alloc (Obj.cells #[Value.int .i64 n, Value.int .i64 k, Value.int .i64 n, Value.int .i64 a, Value.int .i64 b, Value.int .i64 (1 + d)] 31)) wr.heap.size 31 6 ([n, k, n, (a : Int), (b : Int), 1 + (d : Int)].map (Value.int .i64)) := Row.new wr _ _ _ (by simp) (by simp)
          have hB4 : Below w.heap.size w (wr.alloc (Obj.cells #[Value.int .i64 n, Value.int .i64 k, Value.int .i64 n, Value.int .i64 a, Value.int .i64 b, Value.int .i64 (1 + d)] 31)) := hB.alloc hB.size _
          have hs3 : w.heap.size ≤ wr.heap.size := hB.size
          clear hB
          obtain ⟨G, hG⟩ : ∃ G, wr.heap.size = G := ⟨_, rfl⟩
          rw [hG] at hrow3 hs3 ⊢
          generalize wr.alloc _ = wq at hrow3 hB4 ⊢
          clear hG
          go_loopw [177] (fun i wr => ∃ j : Nat, j ≤ 3 ∧ i = .int .i64 j ∧ Row wr G 31 6 ([n, k, n, (a : Int), (b : Int), 1 + (d : Int)].map (Value.int .i64)) ∧ Below w.heap.size w wr) (fun i _ => 3 - (intOf i).toNat)
          case atStart => exact ⟨0, by omega, rfl, hrow3, hB4⟩
          case round =>
            clear hrow3 hB4
            obtain ⟨j, hj, rfl, hrow, hB⟩ := hrel
            by_cases hlt3 : j < 3
            · obtain ⟨u, v, hu, hv, hcu, hcv⟩ := row_pair hrow (by intro y hy; simp at hy; rcases hy with rfl | rfl | rfl | rfl | rfl | rfl <;> omega) (j := j) (by simp; omega)
              have hnum1 := fun wx => number_full u v wx hu.2
              have hnum2 := fun wx => rnumber_full u v wx hu.2
              have hdig1 := fun wx => digit_full v wx
              have hdig2 := fun wx => rdigit_full v wx
              have N1 := Lib.hid hnum1
              have N2 := Lib.hid hnum2
              have G1 := Lib.hid hdig1
              have G2 := Lib.hid hdig2
              have HB := Lib.hid hB
              have HR := Lib.hid hrow
              have hbox := Row.new wr #[Value.int .i64 u, Value.int .i64 v] 31 [Value.int .i64 u, Value.int .i64 v] (by simp) (by simp)
              have HBOX := Lib.hid hbox
              clear hnum1 hnum2 hdig1 hdig2 hB hrow hbox
              go_wp2_with (first
                | (go_at_call 16; (with_reducible refine (N1.out _).mono ?_); rintro e w3 ⟨rfl, hb3⟩; have HX3 := Lib.hid (HBOX.out.below hb3 HBOX.out.lt); have c30 := HX3.out.cellAt (j := 0) (u := Value.int .i64 u) rfl; have c31 := HX3.out.cellAt (j := 1) (u := Value.int .i64 v) rfl)
                | (go_at_call 17; (with_reducible refine (N2.out _).mono ?_); rintro e w4 ⟨rfl, hb4⟩; have HX4 := Lib.hid (HX3.out.below hb4 HX3.out.lt); have c41 := HX4.out.cellAt (j := 1) (u := Value.int .i64 v) rfl)
                | (go_at_call 18; (with_reducible refine (G1.out _).mono ?_); rintro e w5 ⟨rfl, rfl⟩)
                | (go_at_call 19; (with_reducible refine (G2.out _).mono ?_); rintro e w5 ⟨rfl, rfl⟩))
              have hbA := HB.out.alloc HB.out.size (Obj.cells #[Value.int .i64 u, Value.int .i64 v] 31)
              have hbB := hb3.trans (hb4.mono hb3.size)
              have hB5 := hbA.trans (hbB.mono hbA.size)
              have hR5 := (HR.out.alloc (Obj.cells #[Value.int .i64 u, Value.int .i64 v] 31)).below hbB (HR.out.alloc _).lt
              clear hb3 hb4 hbA hbB c30 c31 c41 hcu hcv
              go_roundw
              case rel => exact ⟨j + 1, by omega, by go_num, hR5, hB5⟩
              case measure => simp [intOf]; try omega
            · have : j = 3 := by omega
              subst this
              clear hrow
              rw [show ((3 : Nat) : Int) = 3 from rfl]
              have hval1 := fun wx (hb : Below w.heap.size w wx) => value_any c wx hc (HTAB.out wx hb).1
              have hval2 := fun wx => rvalue_any c wx hc
              have V1 := Lib.hid hval1
              have V2 := Lib.hid hval2
              have HB := Lib.hid hB
              clear hval1 hval2 hB
              go_wp2_with (first
                | (go_at_call 20; (with_reducible refine (V1.out _ HB.out).mono ?_); rintro e w3 ⟨rfl, rfl⟩)
                | (go_at_call 21; (with_reducible refine (V2.out _).mono ?_); rintro e w4 ⟨rfl, rfl⟩)
                | (go_at_call 7; (with_reducible refine (awake_any _).mono ?_); rintro e w5 ⟨rfl, hb5⟩))
              go_ret
              exact ⟨rfl, HB.out.trans (hb5.mono HB.out.size)⟩

theorem acts_all (s t : ByteArray) (n k c : Int) (w : World) (hs : s.size ≤ maxLen) (ht : t.size ≤ maxLen) (hn : -9223372036854775808 ≤ n ∧ n ≤ 9223372036854775807) (hk : -9223372036854775808 ≤ k ∧ k ≤ 9223372036854775807) (hc : 0 ≤ c ∧ c ≤ 255) (hT : Tab w) (h0 : 1 ≤ w.heap.size) :
    Calls Tryd.prog 3 #[.string s, .string t, .int .i64 n, .int .i64 k, .int .u8 c] w fun e w' => e = .returned (.bool true) ∧ Below w.heap.size w w' := by
  by_cases hl : 400 < s.size ∨ 400 < t.size
  · exact acts_big s t n k c w hl hs ht
  · obtain ⟨m, rfl⟩ := Int.eq_ofNat_of_zero_le hc.1
    exact acts_walk s t n k m w (by omega) (by omega) (by omega) hn.1 hn.2 hk.1 hk.2 hT h0

end Go.Proofs.YtgpilklgaipboaaDoor
