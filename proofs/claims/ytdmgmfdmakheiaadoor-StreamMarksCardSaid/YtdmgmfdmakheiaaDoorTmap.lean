/- The program's kindsByLetter and markAt: the map from letters to kinds, and the mark with which a text begins. -/
import Derived.Test.YtdmgmfdmakheiaaDoorTshape
import Derived.Test.YtdmgmfdmakheiaaDoorQcode
import Derived.Test.YtdmgmfdmakheiaaDoorSread
namespace Go.Proofs.YtdmgmfdmakheiaaDoor
open Go.ChangeShapes Go.WideShapes Go.ChangeAt Go.RowKit Go.Maps
set_option linter.unusedVariables false
set_option linter.unusedSimpArgs false

/-- The map behind j rounds. -/
def mapK : Nat → DataW Unit
  | 0 => .map []
  | j + 1 => if letL j = [] then mapK j else (mapK j).put (.string (letL j)) (.lit (.int .i64 j))
theorem mapK_five : mapK 5 = ((((DataW.map [] : DataW Unit).put (.string [65]) (.lit (.int .i64 1))).put (.string [66]) (.lit (.int .i64 2))).put (.string [67]) (.lit (.int .i64 3))).put (.string [71]) (.lit (.int .i64 4)) := by
  rfl
theorem mapK_has (b : UInt8) : Maps.has (mapK 5) (.string [b]) = decide (kindB b ≠ 0) ∧ (mapK 5).atKey (.string [b]) (.lit (.int .i64 0)) = .lit (.int .i64 (kindB b)) := by
  have i0 : IsMap (.map [] : DataW Unit) := isMap_empty
  have i1 := i0.put (.string [65]) (.lit (.int .i64 1))
  have i2 := i1.put (.string [66]) (.lit (.int .i64 2))
  have i3 := i2.put (.string [67]) (.lit (.int .i64 3))
  rw [mapK_five, step_has i3, step_has i2, step_has i1, step_has i0, step_at i3, step_at i2, step_at i1, step_at i0,
    show Maps.has (.map [] : DataW Unit) (.string [b]) = false from rfl, show (.map [] : DataW Unit).atKey (.string [b]) (.lit (.int .i64 0)) = .lit (.int .i64 0) from rfl]
  unfold kindB
  by_cases h1 : b = 65
  · subst h1; exact ⟨by decide, rfl⟩
  · by_cases h2 : b = 66
    · subst h2; exact ⟨by decide, rfl⟩
    · by_cases h3 : b = 67
      · subst h3; exact ⟨by decide, rfl⟩
      · by_cases h4 : b = 71
        · subst h4; exact ⟨by decide, rfl⟩
        · simp [h1, h2, h3, h4]

theorem infoShp : (Tryd.prog.info? 97).map (·.size) = some 10 := by kernel_rfl
theorem aggShp (w : World) : (isAgg 82).run Tryd.prog w = .ok true w := by kernel_rfl
theorem sizeShp (w : World) : (sizeOf 82).run Tryd.prog w = .ok 2 w := by kernel_rfl
/-- The cells of the table of shapes, in their order. -/
def shpAll (v : Nat → Value) : List Value := (List.range 5).flatMap fun i => [.string ⟨(letL i).toArray⟩, v i]
theorem shpAll_get (v : Nat → Value) (j : Nat) (h : j < 5) : (shpAll v)[j * 2]? = some (.string ⟨(letL j).toArray⟩) ∧ (shpAll v)[j * 2 + 1]? = some (v j) := by
  obtain rfl | rfl | rfl | rfl | rfl : j = 0 ∨ j = 1 ∨ j = 2 ∨ j = 3 ∨ j = 4 := by omega
  all_goals exact ⟨rfl, rfl⟩
theorem shpAll_length (v : Nat → Value) : (shpAll v).length = 10 := rfl
theorem shpAll_part (v : Nat → Value) (j : Nat) (h : j < 5) : (shpAll v).toArray.extract (j * 2) (j * 2 + 2) = #[.string ⟨(letL j).toArray⟩, v j] := by
  obtain rfl | rfl | rfl | rfl | rfl : j = 0 ∨ j = 1 ∨ j = 2 ∨ j = 3 ∨ j = 4 := by omega
  all_goals rfl
theorem shpAll_cells {w : World} {v : Nat → Value} (h : ShpV w v) : ∀ j x, (shpAll v)[j]? = some x → w.cell? ⟨1, j, none⟩ = some x := by
  obtain ⟨-, -, h⟩ := h
  intro j x hx
  have hj : j < 10 := by
    rcases Nat.lt_or_ge j 10 with h | h
    · exact h
    · rw [List.getElem?_eq_none (by rw [shpAll_length]; exact h)] at hx; cases hx
  rcases Nat.mod_two_eq_zero_or_one j with e | e
  · obtain ⟨i, rfl⟩ : ∃ i, j = i * 2 := ⟨j / 2, by omega⟩
    rw [(shpAll_get v i (by omega)).1] at hx
    cases hx
    exact (h i (by omega)).1
  · obtain ⟨i, rfl⟩ : ∃ i, j = i * 2 + 1 := ⟨j / 2, by omega⟩
    rw [(shpAll_get v i (by omega)).2] at hx
    cases hx
    exact (h i (by omega)).2.1
set_option maxHeartbeats 1600000 in
set_option maxRecDepth 100000 in
theorem kinds_any (w : World) (hS : Shp w) : Calls Tryd.prog 40 #[] w fun e w' => e = .returned (.map (some w.heap.size)) ∧ Below w.heap.size w w' ∧ w'.ownsMap Tryd.prog 9 (plainElem Tryd.prog 3) w.heap.size 5 (mapK 5) := by
  obtain ⟨v, hv⟩ := hS
  have hmm := @run_makeMap Tryd.prog
  have hL1 : ShpV (w.alloc (.map #[] 0)) v := hv.go ((Below.refl _ _).alloc (Nat.le_refl _) _)
  have HC := Lib.hid (shpAll_cells hL1)
  have HV : Hid (∀ j, j < 5 → ∃ ao m cap, v j = .slice ao m cap) := fun j hj => by
    obtain ⟨ao, cap, e, -⟩ := (hv.2.2 j hj).2.2
    exact ⟨ao, _, cap, e⟩
  obtain ⟨A, hA⟩ : ∃ A, A = shpAll v := ⟨_, rfl⟩
  have hi : (Tryd.prog.info? 97).map (·.size) = some A.length := by rw [hA, shpAll_length]; exact infoShp
  rw [← hA] at HC
  have HA := Lib.hid hA
  clear hL1 hA hv
  go_enter Tryd.func40, Tryd.ntmps40
  go_wp2_with (refine wp_ldc rfl 97 (.global 1) rfl 1 rfl A HC.out _ Tryd.underlying97 rfl hi ?_)
  go_loopw [6] (fun i wr => ∃ j : Nat, j ≤ 5 ∧ i = .int .i64 j ∧ wr.ownsMap Tryd.prog 9 (plainElem Tryd.prog 3) w.heap.size j (mapK j) ∧ Below w.heap.size w wr) (fun i _ => 5 - (intOf i).toNat)
  case atStart => exact ⟨0, by omega, rfl, World.ownsMap_made _ _ _ _, (Below.refl _ _).alloc (Nat.le_refl _) _⟩
  case round =>
    obtain ⟨j, hj, rfl, hown, hbel⟩ := hrel
    by_cases hlt : j < 5
    · have hix := run_index_part (P := Tryd.prog) 97 82 5 2 A.toArray j Tryd.underlying97 hlt aggShp sizeShp
      obtain ⟨ao, m, cap, hvj⟩ := HV.out j hlt
      rw [HA.out, shpAll_part v j hlt, hvj] at hix
      obtain ⟨cs, hcs⟩ : ∃ cs : ByteArray, cs = ⟨(letL j).toArray⟩ := ⟨_, rfl⟩
      rw [← hcs, ← HA.out] at hix
      have hlen : cs.size ≤ maxLen := by
        rw [hcs]
        exact Nat.le_trans (let_size j) (by decide)
      have hkey := WideMaps.keyOf_string_mk (P := Tryd.prog) (k := 9) Tryd.underlying9 hlen
      rw [show cs.data.toList = letL j by rw [hcs]] at hkey
      by_cases hz : letL j = []
      · have hq := same_str (a := cs) (b := ⟨#[]⟩) (by rw [hcs, hz])
        have hstep : mapK (j + 1) = mapK j := by show (if letL j = [] then _ else _) = _; rw [if_pos hz]
        have HS := Lib.hid hstep
        have hq1 := empty_str (a := cs) (by rw [hcs, hz])
        clear hstep hz hcs hvj
        go_wp2
        go_roundw
        case rel => exact ⟨j + 1, by omega, by go_num, by rw [HS.out]; exact (hown.alloc _).mono (by omega), hbel.alloc (by have := hown.lt; omega) _⟩
        case measure => simp [intOf]; omega
      · have hq := other_str (a := cs) (b := ⟨#[]⟩) (by rw [hcs]; intro e; exact hz (by simpa using congrArg (fun b : ByteArray => b.data.toList) e))
        have hstep : mapK (j + 1) = (mapK j).put (.string (letL j)) (.lit (.int .i64 j)) := by show (if letL j = [] then _ else _) = _; rw [if_neg hz]
        have HS := Lib.hid hstep
        have hq1 := full_str (a := cs) (by rw [hcs]; intro e; exact hz (by simpa using congrArg (fun b : ByteArray => b.data.toList) e))
        clear hstep hz hcs hvj
        go_wp2_with (at_mapUpdate; refine wpList_mapUpdate_own _ rfl _ _ _ 73 rfl 9 3 lawStr Tryd.underlying73 _ w.heap.size j _ rfl (hown.alloc _) (by unfold maxLen; omega) _ _ _ rfl rfl hkey _ [] (plainElem_int Tryd.underlying3 (WalkArith.wf_i64 (by omega))) ?_; intro w1 hown1 hgrow1)
        go_roundw
        case rel => exact ⟨j + 1, by omega, by go_num, by rw [HS.out]; exact hown1, (hbel.alloc (by have := hown.lt; omega) _).grown hgrow1 (by have := hown.lt; simp; omega) (fun _ e => by cases e; exact Nat.le_refl _)⟩
        case measure => simp [intOf]; omega
    · obtain rfl : j = 5 := by omega
      have HO := Lib.hid hown
      clear hown
      go_wp2
      go_ret
      exact ⟨rfl, hbel, HO.out⟩

end Go.Proofs.YtdmgmfdmakheiaaDoor
