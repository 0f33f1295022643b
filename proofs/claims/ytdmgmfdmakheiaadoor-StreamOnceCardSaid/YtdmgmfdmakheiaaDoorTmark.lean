/- The program's markAt: the mark with which a text begins. -/
import Derived.Test.YtdmgmfdmakheiaaDoorTmap
import Derived.Test.YtdmgmfdmakheiaaDoorSdata
import Derived.Test.YtdmgmfdmakheiaaDoorSgood
namespace Go.Proofs.YtdmgmfdmakheiaaDoor
open Go.ChangeShapes Go.WideShapes Go.ChangeAt Go.RowKit Go.Maps
set_option linter.unusedVariables false
set_option linter.unusedSimpArgs false

theorem first_is (t : ByteArray) (h : 1 ≤ t.size) : (t.extract 0 1 = (⟨#[45]⟩ : ByteArray)) ↔ t.data.toList.getD 0 0 = 45 := by
  have hl : 1 ≤ t.data.toList.length := by rw [len_is]; exact h
  obtain ⟨x, l, hx⟩ : ∃ x l, t.data.toList = x :: l := by
    match t.data.toList, hl with
    | x :: l, _ => exact ⟨x, l, rfl⟩
  have he : (t.extract 0 1).data.toList = [x] := by rw [ext_data, hx]; rfl
  constructor
  · intro e
    have := congrArg (fun b : ByteArray => b.data.toList) e
    simp only [he] at this
    rw [hx]
    exact (List.cons.inj this).1
  · intro e
    rw [hx] at e
    apply ByteArray.ext
    apply Array.toList_inj.1
    rw [he, show x = 45 from e]

set_option maxRecDepth 100000 in
theorem lite_dash (t : ByteArray) (w : World) (h : 1 ≤ t.size) : Calls Tryd.prog 73 #[.string t, .string { data := #[45] }] w fun e w' => e = .returned (.bool (decide (t.data.toList.getD 0 0 = 45))) ∧ w = w' := by
  have h1 : (1 : Int) ≤ (t.size : Int) := by omega
  have h2 : ({ data := #[45] } : ByteArray).size = 1 := rfl
  by_cases hd : t.data.toList.getD 0 0 = 45
  · have hq := same_str ((first_is t h).2 hd)
    rw [show (⟨#[45]⟩ : ByteArray).toList = [45] by rw [ByteArray.toList_eq]] at hq
    rw [decide_eq_true hd]
    go_enter Tryd.func73, Tryd.ntmps73
    go_wp2
    go_ret
    exact ⟨rfl, rfl⟩
  · have hq := other_str (fun e => hd ((first_is t h).1 e))
    rw [show (⟨#[45]⟩ : ByteArray).toList = [45] by rw [ByteArray.toList_eq]] at hq
    rw [decide_eq_false hd]
    go_enter Tryd.func73, Tryd.ntmps73
    go_wp2
    go_ret
    exact ⟨rfl, rfl⟩
set_option maxRecDepth 100000 in
theorem dash_any (t : ByteArray) (w : World) (h : 1 ≤ t.size) : Calls Tryd.prog 62 #[.string t, .string { data := #[45] }] w fun e w' => e = .returned (.bool (decide (t.data.toList.getD 0 0 = 45))) ∧ w = w' := by
  have LI0 := lite_dash t w h
  obtain ⟨x, hx⟩ : ∃ x, x = decide (t.data.toList.getD 0 0 = 45) := ⟨_, rfl⟩
  rw [← hx] at LI0
  rw [← hx]
  have LI := Lib.hid LI0
  clear hx LI0
  go_enter Tryd.func62, Tryd.ntmps62
  go_wp2_with (go_at_call 73; (with_reducible refine (LI.out).mono ?_); rintro e w3 ⟨rfl, rfl⟩)
  go_ret
  exact ⟨rfl, rfl⟩

/-- What markAt returns. -/
def MarkPost (t : ByteArray) (w : World) (e : Ending) (w' : World) : Prop :=
  ∃ a b : Int, e = .returned (.tuple #[.int .i64 a, .int .i64 b, .bool (markOk t)]) ∧ (markOk t = true → a = markK t ∧ b = (markC t : Int)) ∧ Below w.heap.size w w'
theorem markOk_not {t : ByteArray} (h : t.size < 4 ∨ t.data.toList.getD 0 0 ≠ 45 ∨ kindB (t.data.toList.getD 1 0) = 0 ∨ parE ((t.extract 2 4).data.toList) ≠ 0) : markOk t = false := by
  unfold markOk
  rcases h with h | h | h | h
  · rw [decide_eq_false (by omega : ¬ 4 ≤ t.size)]; rfl
  · rw [decide_eq_false h, Bool.and_false]; rfl
  · rw [decide_eq_false (p := kindB (t.data.toList.getD 1 0) ≠ 0) (fun e => e h), Bool.and_false]; rfl
  · rw [decide_eq_false h, Bool.and_false]
set_option maxHeartbeats 1600000 in
set_option maxRecDepth 100000 in
theorem markAt_any (t : ByteArray) (mb : Nat) (w : World) (hm : t.size ≤ maxLen - 2) (hT : Tab w) (ho : w.ownsMap Tryd.prog 9 (plainElem Tryd.prog 3) mb 5 (mapK 5)) : Calls Tryd.prog 41 #[.string t, .map (some mb)] w (MarkPost t w) := by
  have hB := Below.refl w.heap.size w
  by_cases h4 : t.size < 4
  · have h4' : (t.size : Int) < 4 := by omega
    have hmo := Lib.hid (markOk_not (.inl h4))
    clear ho hT
    go_enter Tryd.func41, Tryd.ntmps41
    go_wp2
    refine bodyPost_ret (v := .tuple #[.int .i64 0, .int .i64 0, .bool false]) ?_ ?_ ?_
    rotate_left
    · rfl
    · exact ⟨0, 0, by rw [hmo.out], fun h => (by rw [hmo.out] at h; cases h), hB⟩
    · simp [results, Tryd.results41, go_sem]
  · have h4' : ¬ (t.size : Int) < 4 := by omega
    have DA := Lib.hid (fun wx : World => dash_any t wx (by omega))
    by_cases h0 : t.data.toList.getD 0 0 = 45
    · rw [decide_eq_true h0] at DA
      have s1 : (1 : Int) ≤ (t.size : Int) := by omega
      have s2 : (2 : Int) ≤ (t.size : Int) := by omega
      have s4 : (4 : Int) ≤ (t.size : Int) := by omega
      have hb1 : (t.extract 1 2).data.toList = [t.data.toList.getD 1 0] := by
        have hl : 4 ≤ t.data.toList.length := by rw [len_is]; omega
        obtain ⟨x, y, l, hx⟩ : ∃ x y l, t.data.toList = x :: y :: l := by
          match t.data.toList, hl with
          | x :: y :: l, _ => exact ⟨x, y, l, rfl⟩
        rw [ext_data, hx]; rfl
      have hkey := WideMaps.keyOf_string_mk (P := Tryd.prog) (k := 9) Tryd.underlying9 (s := t.extract 1 2) (by rw [ext_size t 1 2 (by omega) (by omega)]; unfold maxLen; omega)
      rw [hb1] at hkey
      have HMO := Lib.hid h0
      obtain ⟨b1, hbb⟩ : ∃ b, b = t.data.toList.getD 1 0 := ⟨_, rfl⟩
      rw [← hbb] at hkey
      obtain ⟨hh, ha⟩ := mapK_has b1
      have PA0 := parse_full (t.extract 2 4) w (by rw [ext_size t 2 4 (by omega) (by omega)]; unfold maxLen; omega) hT
      obtain ⟨pn, hpn⟩ : ∃ v, v = parN (t.extract 2 4).data.toList := ⟨_, rfl⟩
      obtain ⟨pe, hpe⟩ : ∃ v, v = parE (t.extract 2 4).data.toList := ⟨_, rfl⟩
      rw [← hpn, ← hpe] at PA0
      have PA := Lib.hid PA0
      obtain ⟨k, hk⟩ : ∃ k, k = kindB b1 := ⟨_, rfl⟩
      rw [← hk] at hh ha
      have HO := Lib.hid ho
      have HK := Lib.hid hkey
      have HA := Lib.hid ha
      have HN := Lib.hid hpn
      have HKE := Lib.hid hk
      have HBB := Lib.hid hbb
      have HPE := Lib.hid hpe
      by_cases hk0 : k = 0
      · have hmo := Lib.hid (markOk_not (t := t) (.inr (.inr (.inl (by rw [← hbb, ← hk]; exact hk0)))))
        have HH := Lib.hid (show Maps.has (mapK 5) (.string [b1]) = false by rw [hh, hk0]; rfl)
        clear hh ha hkey ho hT PA0 hpn hpe hk hbb h0 hb1 PA
        go_enter Tryd.func41, Tryd.ntmps41
        go_wp2_with (first
          | (go_at_call 62; (with_reducible refine (DA.out _).mono ?_); rintro e w3 ⟨rfl, rfl⟩)
          | (at_lookup; refine wp_look _ rfl _ _ 73 rfl 9 3 .i64 lawStr Tryd.underlying73 Tryd.underlying3 (zeroInt _) mb 5 _ rfl HO.out _ _ rfl HK.out _ _ HA.out HH.out ?_))
        refine bodyPost_ret (v := .tuple #[.int .i64 0, .int .i64 0, .bool false]) ?_ ?_ ?_
        rotate_left
        · rfl
        · exact ⟨0, 0, by rw [hmo.out], fun h => (by rw [hmo.out] at h; cases h), hB⟩
        · simp [results, Tryd.results41, go_sem]
      · have HH := Lib.hid (show Maps.has (mapK 5) (.string [b1]) = true by rw [hh, decide_eq_true hk0])
        have hmk : markOk t = decide (pe = 0) := by
          by_cases hp : pe = 0
          · rw [decide_eq_true hp]
            unfold markOk
            rw [decide_eq_true (by omega : 4 ≤ t.size), decide_eq_true h0, ← hbb, ← hk, decide_eq_true hk0, ← hpe, decide_eq_true hp]
            rfl
          · rw [decide_eq_false hp]
            exact markOk_not (.inr (.inr (.inr (by rw [← hpe]; exact hp))))
        have HMK := Lib.hid hmk
        have HKC : Hid (markK t = k ∧ (pe = 0 → (markC t : Int) = pn)) := by
          refine ⟨by unfold markK; rw [← hbb, ← hk], fun _ => ?_⟩
          unfold markC
          obtain ⟨n, hn, -⟩ := parN_le (t.extract 2 4) (by rw [ext_size t 2 4 (by omega) (by omega)])
          rw [hpn, hn]; rfl
        clear hh ha hkey ho hT PA0 hpn hpe hk hbb h0 hb1 hmk
        go_enter Tryd.func41, Tryd.ntmps41
        go_wp2_with (first
          | (go_at_call 62; (with_reducible refine (DA.out _).mono ?_); rintro e w3 ⟨rfl, rfl⟩)
          | (at_lookup; refine wp_look _ rfl _ _ 73 rfl 9 3 .i64 lawStr Tryd.underlying73 Tryd.underlying3 (zeroInt _) mb 5 _ rfl HO.out _ _ rfl HK.out _ _ HA.out HH.out ?_)
          | (go_at_call 63; (with_reducible refine (PA.out).mono ?_); rintro e w4 ⟨rfl, rfl⟩))
        refine bodyPost_ret (v := .tuple #[.int .i64 k, .int .i64 pn, .bool (pe == 0)]) ?_ ?_ ?_
        rotate_left
        · rfl
        · refine ⟨k, pn, ?_, fun h => ?_, hB⟩
          · rw [HMK.out]; rfl
          · rw [HMK.out] at h
            exact ⟨HKC.out.1.symm, (HKC.out.2 (of_decide_eq_true h)).symm⟩
        · simp [results, Tryd.results41, go_sem]
    · rw [decide_eq_false h0] at DA
      have hmo := Lib.hid (markOk_not (t := t) (.inr (.inl h0)))
      clear ho hT h0
      go_enter Tryd.func41, Tryd.ntmps41
      go_wp2_with (first
        | (go_at_call 62; (with_reducible refine (DA.out _).mono ?_); rintro e w3 ⟨rfl, rfl⟩))
      refine bodyPost_ret (v := .tuple #[.int .i64 0, .int .i64 0, .bool false]) ?_ ?_ ?_
      rotate_left
      · rfl
      · exact ⟨0, 0, by rw [hmo.out], fun h => (by rw [hmo.out] at h; cases h), hB⟩
      · simp [results, Tryd.results41, go_sem]

end Go.Proofs.YtdmgmfdmakheiaaDoor
