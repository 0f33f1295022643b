/- Contract of the document's own Encode of primitive. -/
import Derived.Test.YtpophimnoakinaaDoorPref
import Derived.Test.YtpophimnoakinaaDoorRefa
import Derived.Deep.RegionHeld3
namespace Go.Proofs.YtpophimnoakinaaDoor
open Go.ChangeShapes Go.WideShapes Go.ChangeAt Go.RowKit
set_option linter.unusedVariables false
set_option linter.unusedSimpArgs false

/-- What Encode returns for a primitive. -/
def primV (c : Int) (raw : ByteArray) : Value :=
  if 1 ≤ c ∧ c ≤ 8 then (if raw.size = rawN c.toNat then .tuple #[.string ⟨(textL c.toNat raw.data.toList).toArray⟩, .int .i64 0] else .tuple #[.string ⟨#[]⟩, .int .i64 8])
  else .tuple #[.string ⟨#[]⟩, .int .i64 7]

theorem two_keep {w w' : World} {g B : Nat} {u v : Value} (hb : Below B w w') (hg : g < B) (h : w.cell? ⟨g, 0, none⟩ = some u ∧ w.cell? ⟨g, 1, none⟩ = some v) : w'.cell? ⟨g, 0, none⟩ = some u ∧ w'.cell? ⟨g, 1, none⟩ = some v :=
  ⟨by rw [hb.cell (p := ⟨g, 0, none⟩) hg]; exact h.1, by rw [hb.cell (p := ⟨g, 1, none⟩) hg]; exact h.2⟩
theorem two_new (w : World) (u v : Value) (T : TypeId) : (w.alloc (.cells #[u, v] T)).cell? ⟨w.heap.size, 0, none⟩ = some u ∧ (w.alloc (.cells #[u, v] T)).cell? ⟨w.heap.size, 1, none⟩ = some v := by
  constructor <;> simp [go_sem]

theorem lead_bytes (l : Nat) (h : l ≤ 2) (raw : ByteArray) : ((({ data := #[0, 0] } : ByteArray).extract 0 l ++ raw).data.toList) = List.replicate l 0 ++ raw.data.toList := by
  obtain rfl | rfl | rfl : l = 0 ∨ l = 1 ∨ l = 2 := by omega
  all_goals (rw [ByteArray.data_append, Array.toList_append]; rfl)
theorem lead_le_enc (l : Nat) (raw : ByteArray) (h : l ≤ 4 * ((l + raw.size) / 3)) (hm : (l + raw.size) % 3 = 0) : l ≤ (encL (List.replicate l 0 ++ raw.data.toList)).length := by
  rw [encL_length ((l + raw.size) / 3) _ (by rw [List.length_append, List.length_replicate, Array.length_toList]; show l + raw.size = _; omega)]
  exact h

theorem cat_text (a b : List UInt8) (l : Nat) : (⟨a.toArray⟩ : ByteArray) ++ (strL b).extract l (strL b).size = ⟨(a ++ b.drop l).toArray⟩ := by
  apply ByteArray.ext
  apply Array.toList_inj.1
  rw [ByteArray.data_append, Array.toList_append, ext_data]
  show a ++ (b.take b.length).drop l = _
  rw [List.take_length]

set_option maxHeartbeats 800000 in
set_option maxRecDepth 100000 in
theorem rprim_any (c : Int) (raw : ByteArray) (w : World) (hr : raw.size ≤ maxLen - 2) : Calls Tryd.prog 60 #[.agg #[.int .i64 c, .string raw]] w fun e w' => e = .returned (primV c raw) ∧ Below w.heap.size w w' := by
  unfold maxLen at hr
  have hc0 : (w.alloc (.cells #[.int .i64 c, .string raw] 69)).cell? ⟨w.heap.size, 0, none⟩ = some (.int .i64 c) := by simp [go_sem]
  by_cases h : 1 ≤ c ∧ c ≤ 8
  · obtain ⟨n, rfl⟩ : ∃ n : Nat, c = (n : Int) := ⟨c.toNat, by omega⟩
    have C := Lib.hid (fun (wx : World) => rcode_any (n : Int) wx)
    rw [show codeV (n : Int) = .tuple #[.string ⟨(codeL n).toArray⟩, .bool true] from if_pos h] at C
    have R := Lib.hid (fun (wx : World) => rraw_any (n : Int) wx)
    rw [show rawI (n : Int) = (rawN n : Int) from rfl] at R
    have Ld := Lib.hid (fun (wx : World) => rlead_any (n : Int) wx)
    rw [show leadI (n : Int) = (leadN n : Int) from rfl] at Ld
    obtain ⟨cs, hcs⟩ : ∃ cs : ByteArray, cs = ⟨(codeL n).toArray⟩ := ⟨_, rfl⟩
    rw [← hcs] at C
    by_cases hs : raw.size = rawN n
    · rw [show primV (n : Int) raw = .tuple #[.string ⟨(textL n raw.data.toList).toArray⟩, .int .i64 0] by unfold primV; rw [if_pos h, if_pos (by simpa using hs)]; simp]
      obtain ⟨b, hb⟩ : ∃ b, b = rawN n := ⟨_, rfl⟩
      rw [← hb] at R hs
      have heq : (raw.size : Int) = (b : Int) := by omega
      obtain ⟨l, hl⟩ : ∃ l, l = leadN n := ⟨_, rfl⟩
      rw [← hl] at Ld
      have hl2 : l ≤ 2 := by rw [hl]; exact lead_le n
      have hsz : raw.size ≤ 626 := by rw [hs, hb]; rcases eight_codes (c := n) (by omega) (by omega) with rfl | rfl | rfl | rfl | rfl | rfl | rfl | rfl <;> decide
      have hm3 : (l + raw.size) % 3 = 0 := by rw [hs, hb, hl]; exact lead_raw n
      obtain ⟨V, hV⟩ : ∃ V : ByteArray, V = ⟨(textL n raw.data.toList).toArray⟩ := ⟨_, rfl⟩
      rw [← hV]
      have hcs' := Lib.hid hcs
      have hb' := Lib.hid hb
      have hl' := Lib.hid hl
      have hV' := Lib.hid hV
      clear hcs hb hl hV
      have hx : ((({ data := #[0, 0] } : ByteArray).extract 0 l ++ raw).data.toList) = List.replicate l 0 ++ raw.data.toList := lead_bytes l hl2 raw
      have hxs : (({ data := #[0, 0] } : ByteArray).extract 0 l ++ raw).size = l + raw.size := by
        have := congrArg List.length hx
        rw [Array.length_toList, List.length_append, List.length_replicate, Array.length_toList] at this
        exact this
      obtain ⟨T, hT⟩ : ∃ T : ByteArray, T = strL (encL (List.replicate l 0 ++ raw.data.toList)) := ⟨_, rfl⟩
      have hTs : l ≤ T.size := by
        rw [hT]
        have := lead_le_enc l raw (by omega) hm3
        exact this
      have E := Lib.hid (fun (wx : World) => rencode_full (({ data := #[0, 0] } : ByteArray).extract 0 l ++ raw) wx (by unfold maxLen; omega))
      have hE1 : encS ((({ data := #[0, 0] } : ByteArray).extract 0 l ++ raw).data.toList) = T := by
        rw [hx, hT]; unfold encS; rw [if_neg (by rw [List.length_append, List.length_replicate, Array.length_toList]; show ¬ (65536 < l + raw.size ∨ (l + raw.size) % 3 ≠ 0); omega)]
      have hE2 : encE ((({ data := #[0, 0] } : ByteArray).extract 0 l ++ raw).data.toList) = 0 := by
        rw [hx]; unfold encE; rw [List.length_append, List.length_replicate, Array.length_toList, if_neg (show ¬ 65536 < l + raw.data.size from fun (h : 65536 < l + raw.size) => by omega), if_neg (show ¬ (l + raw.data.size) % 3 ≠ 0 from fun (h : (l + raw.size) % 3 ≠ 0) => h hm3)]
      rw [hE1, hE2] at E
      have hTs2 : T.size ≤ 100000 := by
        rw [hT]
        show (encL (List.replicate l 0 ++ raw.data.toList)).length ≤ _
        rw [encL_length ((l + raw.size) / 3) _ (by rw [List.length_append, List.length_replicate, Array.length_toList]; show l + raw.size = _; omega)]
        omega
      have hcs4 : cs.size ≤ 4 := by
        rw [hcs'.out]
        show (codeL n).length ≤ 4
        rcases eight_codes (c := n) (by omega) (by omega) with rfl | rfl | rfl | rfl | rfl | rfl | rfl | rfl <;> decide
      have hT' := Lib.hid hT
      clear hE1 hE2 hT hx hxs
      have hl0 : (0 : Int) ≤ (l : Int) := by omega
      have hl1 : (l : Int) ≤ 2 := by omega
      have hcat2 : ¬ 9223372036854775807 < cs.size + (T.size - l) := by omega
      have hcat : ¬ 9223372036854775807 < l + b := by omega
      have hT0 : (l : Int) ≤ (T.size : Int) := by omega
      go_enter Tryd.func60, Tryd.ntmps60
      go_wp2_with (go_at_call 78; (with_reducible refine (C.out _).mono ?_); rintro e w1 ⟨rfl, hb1⟩)
      have k1 := two_keep hb1 (by simp) (two_new w (.int .i64 (n : Int)) (.string raw) 69)
      have hg : w.heap.size < w1.heap.size := by have := hb1.size; simp at this; omega
      go_region_held3 (fun w' => w'.cell? ⟨w.heap.size, 0, none⟩ = some (.int .i64 (n : Int)) ∧ w'.cell? ⟨w.heap.size, 1, none⟩ = some (.string raw)) (first | exact k1 | exact k2)
        (first | (go_at_call 79; refine (R.out _).mono ?_; rintro e w2 ⟨rfl, hb2⟩; have k2 := two_keep hb2 hg k1))
      go_wp2_with (go_at_call 80; (with_reducible refine (Ld.out _).mono ?_); rintro e w3 ⟨rfl, hb3⟩)
      have k3 := two_keep hb3 (Nat.lt_of_lt_of_le hg (by have := hb2.size; simpa using this)) k2
      have hg3 : w.heap.size < w3.heap.size := by have h2 := hb2.size; have h3 := hb3.size; simp at h2 h3; omega
      go_region_held3 (fun w' => w'.cell? ⟨w.heap.size, 0, none⟩ = some (.int .i64 (n : Int)) ∧ w'.cell? ⟨w.heap.size, 1, none⟩ = some (.string raw)) (first | exact k1 | exact k2 | exact k3 | exact k4)
        (first | (go_at_call 81; refine (E.out _).mono ?_; rintro e w4 ⟨rfl, hb4⟩; have k4 := two_keep hb4 hg3 k3))
      go_wp2
      go_ret2
      refine ⟨?_, ?_⟩
      · show Ending.returned (.tuple #[.string (cs ++ T.extract l T.size), .int .i64 0]) = _
        rw [show cs ++ T.extract l T.size = V by rw [hV'.out, hcs'.out, hT'.out, hl'.out]; exact cat_text _ _ _]
      · have b1 := ((Below.refl _ _).alloc (Nat.le_refl _) _).trans (hb1.mono (by simp))
        have b2 := (b1.drew).trans (hb2.mono (by simp; omega))
        have b3 := b2.trans (hb3.mono (by have h2 := hb2.size; simp at h2; omega))
        exact (b3.drew).trans (hb4.mono (by simp; omega))
    · rw [show primV (n : Int) raw = .tuple #[.string ⟨#[]⟩, .int .i64 8] by unfold primV; rw [if_pos h, if_neg (by simpa using hs)]]
      obtain ⟨b, hb⟩ : ∃ b, b = rawN n := ⟨_, rfl⟩
      rw [← hb] at R hs
      have hne : ¬ (raw.size : Int) = (b : Int) := by omega
      clear hb hcs h
      go_enter Tryd.func60, Tryd.ntmps60
      go_wp2_with (go_at_call 78; (with_reducible refine (C.out _).mono ?_); rintro e w1 ⟨rfl, hb1⟩)
      have k1 := two_keep hb1 (by simp) (two_new w (.int .i64 (n : Int)) (.string raw) 69)
      have hg : w.heap.size < w1.heap.size := by have := hb1.size; simp at this; omega
      go_region_held3 (fun w' => w'.cell? ⟨w.heap.size, 0, none⟩ = some (.int .i64 (n : Int)) ∧ w'.cell? ⟨w.heap.size, 1, none⟩ = some (.string raw)) (first | exact k1 | exact k2)
        (first | (go_at_call 79; refine (R.out _).mono ?_; rintro e w2 ⟨rfl, hb2⟩; have k2 := two_keep hb2 hg k1))
      go_wp2
      go_ret2
      refine ⟨rfl, ?_⟩
      have b1 := ((Below.refl _ _).alloc (Nat.le_refl _) _).trans (hb1.mono (by simp))
      exact (b1.drew).trans (hb2.mono (by simp; omega))
  · have C := Lib.hid (fun (wx : World) => rcode_any c wx)
    rw [show codeV c = .tuple #[.string ⟨#[]⟩, .bool false] from if_neg h] at C
    rw [show primV c raw = .tuple #[.string ⟨#[]⟩, .int .i64 7] from if_neg h]
    go_enter Tryd.func60, Tryd.ntmps60
    go_wp2_with (go_at_call 78; (with_reducible refine (C.out _).mono ?_); rintro e w1 ⟨rfl, hb1⟩)
    go_ret2
    exact ⟨rfl, (((Below.refl _ _).alloc (Nat.le_refl _) _).trans (hb1.mono (by simp)))⟩

end Go.Proofs.YtpophimnoakinaaDoor
