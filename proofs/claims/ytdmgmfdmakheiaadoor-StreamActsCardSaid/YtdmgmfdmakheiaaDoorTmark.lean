/- The program's kindsByLetter and markAt: the map from letters to kinds, and the mark with which a text begins. Then: The program's markAt: the mark with which a text begins. -/
import Derived.Test.YtdmgmfdmakheiaaDoorTshape
import Derived.Test.YtdmgmfdmakheiaaDoorQcode
import Derived.Test.YtdmgmfdmakheiaaDoorSread
import Derived.Test.YtdmgmfdmakheiaaDoorSdata
import Derived.Test.YtdmgmfdmakheiaaDoorSgood
namespace Go.Proofs.YtdmgmfdmakheiaaDoor
open Go.ChangeShapes Go.WideShapes Go.ChangeAt Go.RowKit Go.Maps
set_option linter.unusedVariables false
set_option linter.unusedSimpArgs false

/-- The map behind j rounds. -/
def mapK : Nat → DataW Unit
  | 0 => .map []
  | j + 1 => if letL j = [] then mapK j else (mapK j).put (.string (letL j)) (.lit (.int .i64 j))
theorem mapK_five : mapK 5 = ((((DataW.map [] : DataW Unit).put (.string [65]) (.lit (.int .i64 1))).put (.string [66]) (.lit (.int .i64 2))).put (.string [67]) (.lit (.int .i64 3))).put (.string [71]) (.lit (.int .i64 4)) := by
  rfl
theorem mapK_has (b : UInt8) : Maps.has (mapK 5) (.string [b]) = decide (kindB b ≠ 0) ∧ (mapK 5).atKey (.string [b]) (.lit (.int .i64 0)) = .lit (.int .i64 (kindB b)) := by
  have i0 : IsMap (.map [] : DataW Unit) := isMap_empty
  have i1 := i0.put (.string [65]) (.lit (.int .i64 1))
  have i2 := i1.put (.string [66]) (.lit (.int .i64 2))
  have i3 := i2.put (.string [67]) (.lit (.int .i64 3))
  rw [mapK_five, step_has i3, step_has i2, step_has i1, step_has i0, step_at i3, step_at i2, step_at i1, step_at i0,
    show Maps.has (.map [] : DataW Unit) (.string [b]) = false from rfl, show (.map [] : DataW Unit).atKey (.string [b]) (.lit (.int .i64 0)) = .lit (.int .i64 0) from rfl]
  unfold kindB
  by_cases h1 : b = 65
  · subst h1; exact ⟨by decide, rfl⟩
  · by_cases h2 : b = 66
    · subst h2; exact ⟨by decide, rfl⟩
    · by_cases h3 : b = 67
      · subst h3; exact ⟨by decide, rfl⟩
      · by_cases h4 : b = 71
        · subst h4; exact ⟨by decide, rfl⟩
        · simp [h1, h2, h3, h4]

theorem infoShp : (Tryd.prog.info? 97).map (·.size) = some 10 := by kernel_rfl
theorem aggShp (w : World) : (isAgg 82).run Tryd.prog w = .ok true w := by kernel_rfl
theorem sizeShp (w : World) : (sizeOf 82).run Tryd.prog w = .ok 2 w := by kernel_rfl
/-- The cells of the table of shapes, in their order. -/
def shpAll (v : Nat → Value) : List Value := (List.range 5).flatMap fun i => [.string ⟨(letL i).toArray⟩, v i]
theorem shpAll_get (v : Nat → Value) (j : Nat) (h : j < 5) : (shpAll v)[j * 2]? = some (.string ⟨(letL j).toArray⟩) ∧ (shpAll v)[j * 2 + 1]? = some (v j) := by
  obtain rfl | rfl | rfl | rfl | rfl : j = 0 ∨ j = 1 ∨ j = 2 ∨ j = 3 ∨ j = 4 := by omega
  all_goals exact ⟨rfl, rfl⟩
theorem shpAll_length (v : Nat → Value) : (shpAll v).length = 10 := rfl
theorem shpAll_part (v : Nat → Value) (j : Nat) (h : j < 5) : (shpAll v).toArray.extract (j * 2) (j * 2 + 2) = #[.string ⟨(letL j).toArray⟩, v j] := by
  obtain rfl | rfl | rfl | rfl | rfl : j = 0 ∨ j = 1 ∨ j = 2 ∨ j = 3 ∨ j = 4 := by omega
  all_goals rfl
theorem shpAll_cells {w : World} {v : Nat → Value} (h : ShpV w v) : ∀ j x, (shpAll v)[j]? = some x → w.cell? ⟨1, j, none⟩ = some x := by
  obtain ⟨-, -, h⟩ := h
  intro j x hx
  have hj : j < 10 := by
    rcases Nat.lt_or_ge j 10 with h | h
    · exact h
    · rw [List.getElem?_eq_none (by rw [shpAll_length]; exact h)] at hx; cases hx
  rcases Nat.mod_two_eq_zero_or_one j with e | e
  · obtain ⟨i, rfl⟩ : ∃ i, j = i * 2 := ⟨j / 2, by omega⟩
    rw [(shpAll_get v i (by omega)).1] at hx
    cases hx
    exact (h i (by omega)).1
  · obtain ⟨i, rfl⟩ : ∃ i, j = i * 2 + 1 := ⟨j / 2, by omega⟩
    rw [(shpAll_get v i (by omega)).2] at hx
    cases hx
    exact (h i (by omega)).2.1
set_option maxHeartbeats 1600000 in
set_option maxRecDepth 100000 in
theorem kinds_any (w : World) (hS : Shp w) : Calls Tryd.prog 40 #[] w fun e w' => e = .returned (.map (some w.heap.size)) ∧ Below w.heap.size w w' ∧ w'.ownsMap Tryd.prog 9 (plainElem Tryd.prog 3) w.heap.size 5 (mapK 5) := by
  obtain ⟨v, hv⟩ := hS
  have hmm := @run_makeMap Tryd.prog
  have hL1 : ShpV (w.alloc (.map #[] 0)) v := hv.go ((Below.refl _ _).alloc (Nat.le_refl _) _)
  have HC := Lib.hid (shpAll_cells hL1)
  have HV : Hid (∀ j, j < 5 → ∃ ao m cap, v j = .slice ao m cap) := fun j hj => by
    obtain ⟨ao, cap, e, -⟩ := (hv.2.2 j hj).2.2
    exact ⟨ao, _, cap, e⟩
  obtain ⟨A, hA⟩ : ∃ A, A = shpAll v := ⟨_, rfl⟩
  have hi : (Tryd.prog.info? 97).map (·.size) = some A.length := by rw [hA, shpAll_length]; exact infoShp
  rw [← hA] at HC
  have HA := Lib.hid hA
  clear hL1 hA hv
  go_enter Tryd.func40, Tryd.ntmps40
  go_wp2_with (refine wp_ldc rfl 97 (.global 1) rfl 1 rfl A HC.out _ Tryd.underlying97 rfl hi ?_)
  go_loopw [6] (fun i wr => ∃ j : Nat, j ≤ 5 ∧ i = .int .i64 j ∧ wr.ownsMap Tryd.prog 9 (plainElem Tryd.prog 3) w.heap.size j (mapK j) ∧ Below w.heap.size w wr) (fun i _ => 5 - (intOf i).toNat)
  case atStart => exact ⟨0, by omega, rfl, World.ownsMap_made _ _ _ _, (Below.refl _ _).alloc (Nat.le_refl _) _⟩
  case round =>
    obtain ⟨j, hj, rfl, hown, hbel⟩ := hrel
    by_cases hlt : j < 5
    · have hix := run_index_part (P := Tryd.prog) 97 82 5 2 A.toArray j Tryd.underlying97 hlt aggShp sizeShp
      obtain ⟨ao, m, cap, hvj⟩ := HV.out j hlt
      rw [HA.out, shpAll_part v j hlt, hvj] at hix
      obtain ⟨cs, hcs⟩ : ∃ cs : ByteArray, cs = ⟨(letL j).toArray⟩ := ⟨_, rfl⟩
      rw [← hcs, ← HA.out] at hix
      have hlen : cs.size ≤ maxLen := by
        rw [hcs]
        exact Nat.le_trans (let_size j) (by decide)
      have hkey := WideMaps.keyOf_string_mk (P := Tryd.prog) (k := 9) Tryd.underlying9 hlen
      rw [show cs.data.toList = letL j by rw [hcs]] at hkey
      by_cases hz : letL j = []
      · have hq := same_str (a := cs) (b := ⟨#[]⟩) (by rw [hcs, hz])
        have hstep : mapK (j + 1) = mapK j := by show (if letL j = [] then _ else _) = _; rw [if_pos hz]
        have HS := Lib.hid hstep
        have hq1 := empty_str (a := cs) (by rw [hcs, hz])
        clear hstep hz hcs hvj
        go_wp2
        go_roundw
        case rel => exact ⟨j + 1, by omega, by go_num, by rw [HS.out]; exact (hown.alloc _).mono (by omega), hbel.alloc (by have := hown.lt; omega) _⟩
        case measure => simp [intOf]; omega
      · have hq := other_str (a := cs) (b := ⟨#[]⟩) (by rw [hcs]; intro e; exact hz (by simpa using congrArg (fun b : ByteArray => b.data.toList) e))
        have hstep : mapK (j + 1) = (mapK j).put (.string (letL j)) (.lit (.int .i64 j)) := by show (if letL j = [] then _ else _) = _; rw [if_neg hz]
        have HS := Lib.hid hstep
        have hq1 := full_str (a := cs) (by rw [hcs]; intro e; exact hz (by simpa using congrArg (fun b : ByteArray => b.data.toList) e))
        clear hstep hz hcs hvj
        go_wp2_with (at_mapUpdate; refine wpList_mapUpdate_own _ rfl _ _ _ 73 rfl 9 3 lawStr Tryd.underlying73 _ w.heap.size j _ rfl (hown.alloc _) (by unfold maxLen; omega) _ _ _ rfl rfl hkey _ [] (plainElem_int Tryd.underlying3 (WalkArith.wf_i64 (by omega))) ?_; intro w1 hown1 hgrow1)
        go_roundw
        case rel => exact ⟨j + 1, by omega, by go_num, by rw [HS.out]; exact hown1, (hbel.alloc (by have := hown.lt; omega) _).grown hgrow1 (by have := hown.lt; simp; omega) (fun _ e => by cases e; exact Nat.le_refl _)⟩
        case measure => simp [intOf]; omega
    · obtain rfl : j = 5 := by omega
      have HO := Lib.hid hown
      clear hown
      go_wp2
      go_ret
      exact ⟨rfl, hbel, HO.out⟩

end Go.Proofs.YtdmgmfdmakheiaaDoor

namespace Go.Proofs.YtdmgmfdmakheiaaDoor
open Go.ChangeShapes Go.WideShapes Go.ChangeAt Go.RowKit Go.Maps
set_option linter.unusedVariables false
set_option linter.unusedSimpArgs false

theorem first_is (t : ByteArray) (h : 1 ≤ t.size) : (t.extract 0 1 = (⟨#[45]⟩ : ByteArray)) ↔ t.data.toList.getD 0 0 = 45 := by
  have hl : 1 ≤ t.data.toList.length := by rw [len_is]; exact h
  obtain ⟨x, l, hx⟩ : ∃ x l, t.data.toList = x :: l := by
    match t.data.toList, hl with
    | x :: l, _ => exact ⟨x, l, rfl⟩
  have he : (t.extract 0 1).data.toList = [x] := by rw [ext_data, hx]; rfl
  constructor
  · intro e
    have := congrArg (fun b : ByteArray => b.data.toList) e
    simp only [he] at this
    rw [hx]
    exact (List.cons.inj this).1
  · intro e
    rw [hx] at e
    apply ByteArray.ext
    apply Array.toList_inj.1
    rw [he, show x = 45 from e]

set_option maxRecDepth 100000 in
theorem lite_dash (t : ByteArray) (w : World) (h : 1 ≤ t.size) : Calls Tryd.prog 73 #[.string t, .string { data := #[45] }] w fun e w' => e = .returned (.bool (decide (t.data.toList.getD 0 0 = 45))) ∧ w = w' := by
  have h1 : (1 : Int) ≤ (t.size : Int) := by omega
  have h2 : ({ data := #[45] } : ByteArray).size = 1 := rfl
  by_cases hd : t.data.toList.getD 0 0 = 45
  · have hq := same_str ((first_is t h).2 hd)
    rw [show (⟨#[45]⟩ : ByteArray).toList = [45] by rw [ByteArray.toList_eq]] at hq
    rw [decide_eq_true hd]
    go_enter Tryd.func73, Tryd.ntmps73
    go_wp2
    go_ret
    exact ⟨rfl, rfl⟩
  · have hq := other_str (fun e => hd ((first_is t h).1 e))
    rw [show (⟨#[45]⟩ : ByteArray).toList = [45] by rw [ByteArray.toList_eq]] at hq
    rw [decide_eq_false hd]
    go_enter Tryd.func73, Tryd.ntmps73
    go_wp2
    go_ret
    exact ⟨rfl, rfl⟩
set_option maxRecDepth 100000 in
theorem dash_any (t : ByteArray) (w : World) (h : 1 ≤ t.size) : Calls Tryd.prog 62 #[.string t, .string { data := #[45] }] w fun e w' => e = .returned (.bool (decide (t.data.toList.getD 0 0 = 45))) ∧ w = w' := by
  have LI0 := lite_dash t w h
  obtain ⟨x, hx⟩ : ∃ x, x = decide (t.data.toList.getD 0 0 = 45) := ⟨_, rfl⟩
  rw [← hx] at LI0
  rw [← hx]
  have LI := Lib.hid LI0
  clear hx LI0
  go_enter Tryd.func62, Tryd.ntmps62
  go_wp2_with (go_at_call 73; (with_reducible refine (LI.out).mono ?_); rintro e w3 ⟨rfl, rfl⟩)
  go_ret
  exact ⟨rfl, rfl⟩

/-- What markAt returns. -/
def MarkPost (t : ByteArray) (w : World) (e : Ending) (w' : World) : Prop :=
  ∃ a b : Int, e = .returned (.tuple #[.int .i64 a, .int .i64 b, .bool (markOk t)]) ∧ (markOk t = true → a = markK t ∧ b = (markC t : Int)) ∧ Below w.heap.size w w'
theorem markOk_not {t : ByteArray} (h : t.size < 4 ∨ t.data.toList.getD 0 0 ≠ 45 ∨ kindB (t.data.toList.getD 1 0) = 0 ∨ parE ((t.extract 2 4).data.toList) ≠ 0) : markOk t = false := by
  unfold markOk
  rcases h with h | h | h | h
  · rw [decide_eq_false (by omega : ¬ 4 ≤ t.size)]; rfl
  · rw [decide_eq_false h, Bool.and_false]; rfl
  · rw [decide_eq_false (p := kindB (t.data.toList.getD 1 0) ≠ 0) (fun e => e h), Bool.and_false]; rfl
  · rw [decide_eq_false h, Bool.and_false]
set_option maxHeartbeats 1600000 in
set_option maxRecDepth 100000 in
theorem markAt_any (t : ByteArray) (mb : Nat) (w : World) (hm : t.size ≤ maxLen - 2) (hT : Tab w) (ho : w.ownsMap Tryd.prog 9 (plainElem Tryd.prog 3) mb 5 (mapK 5)) : Calls Tryd.prog 41 #[.string t, .map (some mb)] w (MarkPost t w) := by
  have hB := Below.refl w.heap.size w
  by_cases h4 : t.size < 4
  · have h4' : (t.size : Int) < 4 := by omega
    have hmo := Lib.hid (markOk_not (.inl h4))
    clear ho hT
    go_enter Tryd.func41, Tryd.ntmps41
    go_wp2
    refine bodyPost_ret (v := .tuple #[.int .i64 0, .int .i64 0, .bool false]) ?_ ?_ ?_
    rotate_left
    · rfl
    · exact ⟨0, 0, by rw [hmo.out], fun h => (by rw [hmo.out] at h; cases h), hB⟩
    · simp [results, Tryd.results41, go_sem]
  · have h4' : ¬ (t.size : Int) < 4 := by omega
    have DA := Lib.hid (fun wx : World => dash_any t wx (by omega))
    by_cases h0 : t.data.toList.getD 0 0 = 45
    · rw [decide_eq_true h0] at DA
      have s1 : (1 : Int) ≤ (t.size : Int) := by omega
      have s2 : (2 : Int) ≤ (t.size : Int) := by omega
      have s4 : (4 : Int) ≤ (t.size : Int) := by omega
      have hb1 : (t.extract 1 2).data.toList = [t.data.toList.getD 1 0] := by
        have hl : 4 ≤ t.data.toList.length := by rw [len_is]; omega
        obtain ⟨x, y, l, hx⟩ : ∃ x y l, t.data.toList = x :: y :: l := by
          match t.data.toList, hl with
          | x :: y :: l, _ => exact ⟨x, y, l, rfl⟩
        rw [ext_data, hx]; rfl
      have hkey := WideMaps.keyOf_string_mk (P := Tryd.prog) (k := 9) Tryd.underlying9 (s := t.extract 1 2) (by rw [ext_size t 1 2 (by omega) (by omega)]; unfold maxLen; omega)
      rw [hb1] at hkey
      have HMO := Lib.hid h0
      obtain ⟨b1, hbb⟩ : ∃ b, b = t.data.toList.getD 1 0 := ⟨_, rfl⟩
      rw [← hbb] at hkey
      obtain ⟨hh, ha⟩ := mapK_has b1
      have PA0 := parse_full (t.extract 2 4) w (by rw [ext_size t 2 4 (by omega) (by omega)]; unfold maxLen; omega) hT
      obtain ⟨pn, hpn⟩ : ∃ v, v = parN (t.extract 2 4).data.toList := ⟨_, rfl⟩
      obtain ⟨pe, hpe⟩ : ∃ v, v = parE (t.extract 2 4).data.toList := ⟨_, rfl⟩
      rw [← hpn, ← hpe] at PA0
      have PA := Lib.hid PA0
      obtain ⟨k, hk⟩ : ∃ k, k = kindB b1 := ⟨_, rfl⟩
      rw [← hk] at hh ha
      have HO := Lib.hid ho
      have HK := Lib.hid hkey
      have HA := Lib.hid ha
      have HN := Lib.hid hpn
      have HKE := Lib.hid hk
      have HBB := Lib.hid hbb
      have HPE := Lib.hid hpe
      by_cases hk0 : k = 0
      · have hmo := Lib.hid (markOk_not (t := t) (.inr (.inr (.inl (by rw [← hbb, ← hk]; exact hk0)))))
        have HH := Lib.hid (show Maps.has (mapK 5) (.string [b1]) = false by rw [hh, hk0]; rfl)
        clear hh ha hkey ho hT PA0 hpn hpe hk hbb h0 hb1 PA
        go_enter Tryd.func41, Tryd.ntmps41
        go_wp2_with (first
          | (go_at_call 62; (with_reducible refine (DA.out _).mono ?_); rintro e w3 ⟨rfl, rfl⟩)
          | (at_lookup; refine wp_look _ rfl _ _ 73 rfl 9 3 .i64 lawStr Tryd.underlying73 Tryd.underlying3 (zeroInt _) mb 5 _ rfl HO.out _ _ rfl HK.out _ _ HA.out HH.out ?_))
        refine bodyPost_ret (v := .tuple #[.int .i64 0, .int .i64 0, .bool false]) ?_ ?_ ?_
        rotate_left
        · rfl
        · exact ⟨0, 0, by rw [hmo.out], fun h => (by rw [hmo.out] at h; cases h), hB⟩
        · simp [results, Tryd.results41, go_sem]
      · have HH := Lib.hid (show Maps.has (mapK 5) (.string [b1]) = true by rw [hh, decide_eq_true hk0])
        have hmk : markOk t = decide (pe = 0) := by
          by_cases hp : pe = 0
          · rw [decide_eq_true hp]
            unfold markOk
            rw [decide_eq_true (by omega : 4 ≤ t.size), decide_eq_true h0, ← hbb, ← hk, decide_eq_true hk0, ← hpe, decide_eq_true hp]
            rfl
          · rw [decide_eq_false hp]
            exact markOk_not (.inr (.inr (.inr (by rw [← hpe]; exact hp))))
        have HMK := Lib.hid hmk
        have HKC : Hid (markK t = k ∧ (pe = 0 → (markC t : Int) = pn)) := by
          refine ⟨by unfold markK; rw [← hbb, ← hk], fun _ => ?_⟩
          unfold markC
          obtain ⟨n, hn, -⟩ := parN_le (t.extract 2 4) (by rw [ext_size t 2 4 (by omega) (by omega)])
          rw [hpn, hn]; rfl
        clear hh ha hkey ho hT PA0 hpn hpe hk hbb h0 hb1 hmk
        go_enter Tryd.func41, Tryd.ntmps41
        go_wp2_with (first
          | (go_at_call 62; (with_reducible refine (DA.out _).mono ?_); rintro e w3 ⟨rfl, rfl⟩)
          | (at_lookup; refine wp_look _ rfl _ _ 73 rfl 9 3 .i64 lawStr Tryd.underlying73 Tryd.underlying3 (zeroInt _) mb 5 _ rfl HO.out _ _ rfl HK.out _ _ HA.out HH.out ?_)
          | (go_at_call 63; (with_reducible refine (PA.out).mono ?_); rintro e w4 ⟨rfl, rfl⟩))
        refine bodyPost_ret (v := .tuple #[.int .i64 k, .int .i64 pn, .bool (pe == 0)]) ?_ ?_ ?_
        rotate_left
        · rfl
        · refine ⟨k, pn, ?_, fun h => ?_, hB⟩
          · rw [HMK.out]; rfl
          · rw [HMK.out] at h
            exact ⟨HKC.out.1.symm, (HKC.out.2 (of_decide_eq_true h)).symm⟩
        · simp [results, Tryd.results41, go_sem]
    · rw [decide_eq_false h0] at DA
      have hmo := Lib.hid (markOk_not (t := t) (.inr (.inl h0)))
      clear ho hT h0
      go_enter Tryd.func41, Tryd.ntmps41
      go_wp2_with (first
        | (go_at_call 62; (with_reducible refine (DA.out _).mono ?_); rintro e w3 ⟨rfl, rfl⟩))
      refine bodyPost_ret (v := .tuple #[.int .i64 0, .int .i64 0, .bool false]) ?_ ?_ ?_
      rotate_left
      · rfl
      · exact ⟨0, 0, by rw [hmo.out], fun h => (by rw [hmo.out] at h; cases h), hB⟩
      · simp [results, Tryd.results41, go_sem]

end Go.Proofs.YtdmgmfdmakheiaaDoor
