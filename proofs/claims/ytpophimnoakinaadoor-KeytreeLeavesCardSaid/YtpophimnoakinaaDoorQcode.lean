/- The contract of codeAt of package primitive: the number of the code with which a text begins. -/
import Derived.Test.YtpophimnoakinaaDoorQmap
namespace Go.Proofs.YtpophimnoakinaaDoor
open Go.ChangeShapes Go.WideShapes Go.ChangeAt Go.RowKit Go.Maps
set_option linter.unusedVariables false
set_option linter.unusedSimpArgs false

theorem lawStr : Keyed Tryd.prog 9 := string_keyed Tryd.underlying9
theorem zeroInt (w : World) : (zeroValue 3).run Tryd.prog w = .ok (.int .i64 0) w := by kernel_rfl
theorem infoLay : (Tryd.prog.info? 96).map (·.size) = some layAll.length := by kernel_rfl
theorem aggLay (w : World) : (isAgg 83).run Tryd.prog w = .ok true w := by kernel_rfl
theorem sizeLay (w : World) : (sizeOf 83).run Tryd.prog w = .ok 2 w := by kernel_rfl

set_option maxHeartbeats 1600000 in
set_option maxRecDepth 100000 in
theorem codeAt_any (t : ByteArray) (w : World) (hr : t.size ≤ maxLen) (hL : Lay w) : Calls Tryd.prog 93 #[.string t] w fun e w' => e = .returned (.tuple #[.int .i64 (firstP t : Int), .bool (decide (firstP t ≠ 0))]) ∧ Below w.heap.size w w' := by
  unfold maxLen at hr
  have hmm := @run_makeMap Tryd.prog
  have hL1 : Lay (w.alloc (.map #[] 0)) := hL.below hL.lt ((Below.refl _ _).alloc (Nat.le_refl _) _)
  have HC := Lib.hid (layAll_cells hL1)
  obtain ⟨A, hA⟩ : ∃ A, A = layAll := ⟨_, rfl⟩
  have hi := infoLay
  rw [← hA] at HC hi
  have HA := Lib.hid hA
  clear hL1 hA hL
  obtain ⟨R, hR⟩ : ∃ R : Value, R = .tuple #[.int .i64 (firstP t : Int), .bool (decide (firstP t ≠ 0))] := ⟨_, rfl⟩
  rw [← hR]
  have HR := Lib.hid hR
  clear hR
  go_enter Tryd.func93, Tryd.ntmps93
  go_wp2_with (refine wp_ldc rfl 96 (.global 1) rfl 1 rfl A HC.out _ Tryd.underlying96 rfl hi ?_)
  go_loopw [12] (fun i wr => ∃ j : Nat, j ≤ 9 ∧ i = .int .i64 j ∧ wr.ownsMap Tryd.prog 9 (plainElem Tryd.prog 3) w.heap.size j (mapC j) ∧ Below w.heap.size w wr) (fun i _ => 9 - (intOf i).toNat)
  case atStart => exact ⟨0, by omega, rfl, World.ownsMap_made _ _ _ _, (Below.refl _ _).alloc (Nat.le_refl _) _⟩
  case round =>
    obtain ⟨j, hj, rfl, hown, hbel⟩ := hrel
    by_cases hlt : j < 9
    · have hix := run_index_part (P := Tryd.prog) 96 83 9 2 A.toArray j Tryd.underlying96 hlt aggLay sizeLay
      rw [HA.out, layAll_part j hlt] at hix
      obtain ⟨cs, hcs⟩ : ∃ cs : ByteArray, cs = ⟨(codeL j).toArray⟩ := ⟨_, rfl⟩
      obtain ⟨b, hb⟩ : ∃ b, b = rawN j := ⟨_, rfl⟩
      rw [← hcs, ← hb, ← HA.out] at hix
      have hlen : cs.size ≤ maxLen := by
        rw [hcs]
        show (codeL j).length ≤ _
        have : j = 0 ∨ j = 1 ∨ j = 2 ∨ j = 3 ∨ j = 4 ∨ j = 5 ∨ j = 6 ∨ j = 7 ∨ j = 8 := by omega
        rcases this with rfl | rfl | rfl | rfl | rfl | rfl | rfl | rfl | rfl <;> decide
      have hkey := WideMaps.keyOf_string_mk (P := Tryd.prog) (k := 9) Tryd.underlying9 hlen
      rw [show cs.data.toList = codeL j by rw [hcs]] at hkey
      by_cases hz : codeL j = []
      · have hq := same_str (a := cs) (b := ⟨#[]⟩) (by rw [hcs, hz])
        have hstep : mapC (j + 1) = mapC j := by show (if codeL j = [] then _ else _) = _; rw [if_pos hz]
        have HS := Lib.hid hstep
        have hq1 := empty_str (a := cs) (by rw [hcs, hz])
        clear hstep hz hb hcs
        go_wp2
        go_roundw
        case rel => exact ⟨j + 1, by omega, by go_num, by rw [HS.out]; exact (hown.alloc _).mono (by omega), hbel.alloc (by have := hown.lt; omega) _⟩
        case measure => simp [intOf]; omega
      · have hq := other_str (a := cs) (b := ⟨#[]⟩) (by rw [hcs]; intro e; exact hz (by simpa using congrArg (fun b : ByteArray => b.data.toList) e))
        have hstep : mapC (j + 1) = (mapC j).put (.string (codeL j)) (.lit (.int .i64 j)) := by show (if codeL j = [] then _ else _) = _; rw [if_neg hz]
        have HS := Lib.hid hstep
        have hq1 := full_str (a := cs) (by rw [hcs]; intro e; exact hz (by simpa using congrArg (fun b : ByteArray => b.data.toList) e))
        clear hstep hz hb hcs
        go_wp2_with (at_mapUpdate; refine wpList_mapUpdate_own _ rfl _ _ _ 102 rfl 9 3 lawStr Tryd.underlying102 _ w.heap.size j _ rfl (hown.alloc _) (by unfold maxLen; omega) _ _ _ rfl rfl hkey _ [] (plainElem_int Tryd.underlying3 (WalkArith.wf_i64 (by omega))) ?_; intro w1 hown1 hgrow1)
        go_roundw
        case rel => exact ⟨j + 1, by omega, by go_num, by rw [HS.out]; exact hown1, (hbel.alloc (by have := hown.lt; omega) _).grown hgrow1 (by have := hown.lt; simp; omega) (fun _ e => by cases e; exact Nat.le_refl _)⟩
        case measure => simp [intOf]; omega
    · obtain rfl : j = 9 := by omega
      have hkey : ∀ k : Nat, k ≤ t.size → keyOf Tryd.prog 9 (.string (t.extract 0 k)) = some (.string (t.data.toList.take k)) := by
        intro k hk
        have h := WideMaps.keyOf_string_mk (P := Tryd.prog) (k := 9) Tryd.underlying9 (s := t.extract 0 k) (by rw [ext_size t 0 k (by omega) hk]; unfold maxLen; omega)
        rw [ext_data, List.drop_zero] at h
        exact h
      have HK := Lib.hid hkey
      clear hkey
      have HO := Lib.hid hown
      clear hown
      go_wp2
      go_loop [7] (fun i => ∃ k : Nat, 1 ≤ k ∧ k ≤ 5 ∧ k ≤ t.size + 1 ∧ i = .int .i64 k ∧ ∀ q, 1 ≤ q → q < k → hereP t q = 0) (fun i => 5 - (intOf i).toNat)
      case atStart => exact ⟨1, by omega, by omega, by omega, rfl, fun q a b => by omega⟩
      case round =>
        obtain ⟨k, k1, k5, kt, rfl, hno⟩ := hrel
        by_cases hk : k ≤ 4 ∧ k ≤ t.size
        · have hkey := HK.out k hk.2
          obtain ⟨hh, ha⟩ := has_nine (t.data.toList.take k)
          have hh' : Maps.has (mapC 9) (.string (t.data.toList.take k)) = decide (hereP t k ≠ 0) := hh
          have ha' : (mapC 9).atKey (.string (t.data.toList.take k)) (.lit (.int .i64 0)) = .lit (.int .i64 (hereP t k)) := ha
          have hfp := firstP_here t k hk.2
          clear hh ha
          obtain ⟨c, hc⟩ : ∃ c, c = hereP t k := ⟨_, rfl⟩
          rw [← hc] at hh' ha' hfp
          have HC2 := Lib.hid hc
          have HA2 := Lib.hid ha'
          have HFP := Lib.hid hfp
          have HNO := Lib.hid hno
          have HKY := Lib.hid hkey
          clear hc ha' hfp hno hkey HC hi
          obtain ⟨hk4, hks⟩ := hk
          have hks' : (k : Int) ≤ (t.size : Int) := by omega
          have hk0 : (0 : Int) ≤ (k : Int) := by omega
          have hk4' : (k : Int) ≤ 4 := by omega
          by_cases hc0 : c = 0
          · have HH := Lib.hid (show Maps.has (mapC 9) (.string (t.data.toList.take k)) = false by rw [hh', hc0]; rfl)
            clear hh'
            by_cases h4 : (4 : Int) ≤ (t.size : Int)
            · go_wp2_with (at_lookup; refine wp_look _ rfl _ _ 102 rfl 9 3 .i64 lawStr Tryd.underlying102 Tryd.underlying3 (zeroInt _) w.heap.size 9 _ rfl HO.out _ _ rfl HKY.out _ _ HA2.out HH.out ?_)
              exact ⟨⟨u2, u3, _, ⟨k + 1, by omega, by omega, by omega, by go_num, fun q a b => by rcases Nat.lt_or_ge q k with h | h; exact HNO.out q a h; rw [show q = k by omega, ← HC2.out, hc0]⟩, rfl, rfl, rfl⟩, by simp [intOf]; omega⟩
            · go_wp2_with (at_lookup; refine wp_look _ rfl _ _ 102 rfl 9 3 .i64 lawStr Tryd.underlying102 Tryd.underlying3 (zeroInt _) w.heap.size 9 _ rfl HO.out _ _ rfl HKY.out _ _ HA2.out HH.out ?_)
              exact ⟨⟨u2, u3, _, ⟨k + 1, by omega, by omega, by omega, by go_num, fun q a b => by rcases Nat.lt_or_ge q k with h | h; exact HNO.out q a h; rw [show q = k by omega, ← HC2.out, hc0]⟩, rfl, rfl, rfl⟩, by simp [intOf]; omega⟩
          · have HH := Lib.hid (show Maps.has (mapC 9) (.string (t.data.toList.take k)) = true by rw [hh', decide_eq_true hc0])
            clear hh'
            by_cases h4 : (4 : Int) ≤ (t.size : Int)
            · go_wp2_with (at_lookup; refine wp_look _ rfl _ _ 102 rfl 9 3 .i64 lawStr Tryd.underlying102 Tryd.underlying3 (zeroInt _) w.heap.size 9 _ rfl HO.out _ _ rfl HKY.out _ _ HA2.out HH.out ?_)
              go_ret2
              exact ⟨by rw [HR.out, HFP.out hc0, decide_eq_true hc0]; rfl, hbel⟩
            · go_wp2_with (at_lookup; refine wp_look _ rfl _ _ 102 rfl 9 3 .i64 lawStr Tryd.underlying102 Tryd.underlying3 (zeroInt _) w.heap.size 9 _ rfl HO.out _ _ rfl HKY.out _ _ HA2.out HH.out ?_)
              go_ret2
              exact ⟨by rw [HR.out, HFP.out hc0, decide_eq_true hc0]; rfl, hbel⟩
        · have hf := firstP_none t (fun q a b c => by rcases Nat.lt_or_ge q k with h | h; exact hno q a h; exfalso; omega)
          have HF := Lib.hid hf
          clear hf hno
          by_cases h4 : (4 : Int) ≤ (t.size : Int)
          · have hk5 : ¬ (k : Int) ≤ 4 := by omega
            go_wp2
            go_ret2
            exact ⟨by rw [HR.out, HF.out]; rfl, hbel⟩
          · have hk5 : ¬ (k : Int) ≤ (t.size : Int) := by omega
            go_wp2
            go_ret2
            exact ⟨by rw [HR.out, HF.out]; rfl, hbel⟩

end Go.Proofs.YtpophimnoakinaaDoor
