/- Contracts of the document's own Make, Binary, Text, Open, Is of primitive. -/
import Derived.Test.YtpophimnoakinaaDoorQlay
namespace Go.Proofs.YtpophimnoakinaaDoor
open Go.ChangeShapes Go.WideShapes Go.ChangeAt Go.RowKit
set_option linter.unusedVariables false
set_option linter.unusedSimpArgs false

/-- Encode's two answers apart. -/
def primS (c : Int) (raw : ByteArray) : ByteArray := if (1 ≤ c ∧ c ≤ 8) ∧ raw.size = rawN c.toNat then ⟨(textL c.toNat raw.data.toList).toArray⟩ else ⟨#[]⟩
def primE (c : Int) (raw : ByteArray) : Int := if 1 ≤ c ∧ c ≤ 8 then (if raw.size = rawN c.toNat then 0 else 8) else 7
theorem primV_parts (c : Int) (raw : ByteArray) : primV c raw = .tuple #[.string (primS c raw), .int .i64 (primE c raw)] := by
  unfold primV primS primE
  by_cases h : 1 ≤ c ∧ c ≤ 8 <;> by_cases g : raw.size = rawN c.toNat <;> simp [h, g]
/-- Decode's four answers apart. -/
structure DecQ where
  c : Int
  raw : ByteArray
  n : Int
  e : Int
def outQ (t : ByteArray) (c : Nat) : DecQ :=
  if t.size < sizeN c then ⟨0, ⟨#[]⟩, 0, 8⟩
  else if rawE t c ≠ 0 ∨ (rawP t c).extract 0 (leadN c) ≠ (⟨#[0, 0]⟩ : ByteArray).extract 0 (leadN c) then ⟨0, ⟨#[]⟩, 0, 4⟩
  else ⟨c, (rawP t c).extract (leadN c) (rawP t c).size, sizeN c, 0⟩
def decQ (t : ByteArray) : DecQ :=
  match (List.range 8).find? (fun i => hitP t (i + 1)) with
  | none => ⟨0, ⟨#[]⟩, 0, 7⟩
  | some i => outQ t (i + 1)
theorem decP_parts (t : ByteArray) : decP t = .tuple #[.agg #[.int .i64 (decQ t).c, .string (decQ t).raw], .int .i64 (decQ t).n, .int .i64 (decQ t).e] := by
  unfold decP decQ primZ
  cases (List.range 8).find? (fun i => hitP t (i + 1)) with
  | none => rfl
  | some i =>
    show outP t (i + 1) = _
    unfold outP outQ primZ
    by_cases h : t.size < sizeN (i + 1)
    · simp only [if_pos h]
    · simp only [if_neg h]
      by_cases g : rawE t (i + 1) ≠ 0 ∨ (rawP t (i + 1)).extract 0 (leadN (i + 1)) ≠ (⟨#[0, 0]⟩ : ByteArray).extract 0 (leadN (i + 1))
      · simp only [if_pos g]
      · simp only [if_neg g]

set_option maxRecDepth 100000 in
theorem rmake_any (c : Int) (raw : ByteArray) (w : World) (hr : raw.size ≤ maxLen - 2) : Calls Tryd.prog 34 #[.int .i64 c, .string raw] w fun e w' => e = .returned (.string (primS c raw)) ∧ Below w.heap.size w w' := by
  have C := Lib.hid (fun (wx : World) => rprim_any c raw wx hr)
  rw [primV_parts] at C
  go_enter Tryd.func34, Tryd.ntmps34
  go_wp2_with (go_at_call 60; (with_reducible refine (C.out _).mono ?_); rintro e w1 ⟨rfl, hb1⟩)
  go_ret
  exact ⟨rfl, hb1⟩



/-- What Open returns. -/
def opnS (c : Int) (t : ByteArray) : ByteArray := if (decQ t).e ≠ 0 ∨ (decQ t).c ≠ c ∨ (decQ t).n ≠ t.size then ⟨#[]⟩ else (decQ t).raw
def opnE (c : Int) (t : ByteArray) : Int := if (decQ t).e ≠ 0 then (decQ t).e else if (decQ t).c ≠ c then 7 else if (decQ t).n ≠ t.size then 8 else 0

set_option maxRecDepth 100000 in
theorem ropen_any (c : Int) (t : ByteArray) (w : World) (hr : t.size ≤ maxLen - 2) : Calls Tryd.prog 45 #[.int .i64 c, .string t] w fun e w' => e = .returned (.tuple #[.string (opnS c t), .int .i64 (opnE c t)]) ∧ Below w.heap.size w w' := by
  have C := Lib.hid (fun (wx : World) => rdecp_any t wx hr)
  rw [decP_parts] at C
  unfold opnS opnE
  generalize decQ t = q at C ⊢
  obtain ⟨d, raw, n, x⟩ := q
  dsimp only at C ⊢
  by_cases hx : x = 0
  · subst hx
    by_cases hd : d = c
    · subst hd
      by_cases hn : n = t.size
      · subst hn
        rw [if_neg (by simp), if_neg (by simp), if_neg (by simp), if_neg (by simp)]
        go_enter Tryd.func45, Tryd.ntmps45
        go_wp2_with (go_at_call 65; (with_reducible refine (C.out _).mono ?_); rintro e w1 ⟨rfl, hb1⟩)
        go_ret2
        exact ⟨rfl, hb1.alloc hb1.size _⟩
      · have hn1 : (n != (t.size : Int)) = true := by simp [hn]
        rw [if_pos (.inr (.inr hn)), if_neg (by simp), if_neg (by simp), if_pos hn]
        go_enter Tryd.func45, Tryd.ntmps45
        go_wp2_with (go_at_call 65; (with_reducible refine (C.out _).mono ?_); rintro e w1 ⟨rfl, hb1⟩)
        go_ret2
        exact ⟨rfl, hb1.alloc hb1.size _⟩
    · have hd1 : (d != c) = true := by simp [hd]
      rw [if_pos (.inr (.inl hd)), if_neg (by simp), if_pos hd]
      go_enter Tryd.func45, Tryd.ntmps45
      go_wp2_with (go_at_call 65; (with_reducible refine (C.out _).mono ?_); rintro e w1 ⟨rfl, hb1⟩)
      go_ret2
      exact ⟨rfl, hb1.alloc hb1.size _⟩
  · have hx1 : (x != 0) = true := by simp [hx]
    rw [if_pos (.inl hx), if_pos hx]
    go_enter Tryd.func45, Tryd.ntmps45
    go_wp2_with (go_at_call 65; (with_reducible refine (C.out _).mono ?_); rintro e w1 ⟨rfl, hb1⟩)
    go_ret2
    exact ⟨rfl, hb1.alloc hb1.size _⟩

end Go.Proofs.YtpophimnoakinaaDoor
/- Contracts of the program's own Encode, Make, Binary, Text of primitive. -/
namespace Go.Proofs.YtpophimnoakinaaDoor
open Go.ChangeShapes Go.WideShapes Go.ChangeAt Go.RowKit
set_option linter.unusedVariables false
set_option linter.unusedSimpArgs false

theorem three_keep {w w' : World} {g h B : Nat} {u v x : Value} (hb : Below B w w') (hg : g < B) (hh : h < B) (s : w.cell? ⟨g, 1, none⟩ = some u ∧ w.cell? ⟨h, 0, none⟩ = some v ∧ w.cell? ⟨h, 1, none⟩ = some x) : w'.cell? ⟨g, 1, none⟩ = some u ∧ w'.cell? ⟨h, 0, none⟩ = some v ∧ w'.cell? ⟨h, 1, none⟩ = some x :=
  ⟨by rw [hb.cell (p := ⟨g, 1, none⟩) hg]; exact s.1, by rw [hb.cell (p := ⟨h, 0, none⟩) hh]; exact s.2.1, by rw [hb.cell (p := ⟨h, 1, none⟩) hh]; exact s.2.2⟩
set_option maxHeartbeats 1600000 in
set_option maxRecDepth 100000 in
theorem yprim_good (n : Nat) (raw : ByteArray) (w : World) (h1 : 1 ≤ n) (h8 : n ≤ 8) (hs : raw.size = rawN n) (hL : Lay w) : Calls Tryd.prog 59 #[.agg #[.int .i64 (n : Int), .string raw]] w fun e w' => e = .returned (.tuple #[.string ⟨(textL n raw.data.toList).toArray⟩, .int .i64 0]) ∧ Below w.heap.size w w' := by
  have C := Lib.hid (fun (wx : World) (hx : Lay wx) => layout_any (n : Int) wx hx)
  unfold layR at C
  rw [show ((n : Int)).toNat = n from rfl, show rawI (n : Int) = (rawN n : Int) from rfl, decide_eq_true (show 1 ≤ (n : Int) ∧ (n : Int) ≤ 8 by omega)] at C
  obtain ⟨cs, hcs⟩ : ∃ cs : ByteArray, cs = ⟨(codeL n).toArray⟩ := ⟨_, rfl⟩
  rw [← hcs] at C
  obtain ⟨b, hb⟩ : ∃ b, b = rawN n := ⟨_, rfl⟩
  rw [← hb] at C hs
  have heq : (raw.size : Int) = (b : Int) := by omega
  obtain ⟨l, hl⟩ : ∃ l, l = leadN n := ⟨_, rfl⟩
  have hl2 : l ≤ 2 := by rw [hl]; exact lead_le n
  have hsz : raw.size ≤ 626 := by rw [hs, hb]; rcases eight_codes (c := n) (by omega) (by omega) with rfl | rfl | rfl | rfl | rfl | rfl | rfl | rfl <;> decide
  have Ld := Lib.hid (fun (wx : World) => ylead_any cs b l wx (by omega) (by rw [hl, hb]; rfl))
  have hm3 : (l + raw.size) % 3 = 0 := by rw [hs, hb, hl]; exact lead_raw n
  obtain ⟨V, hV⟩ : ∃ V : ByteArray, V = ⟨(textL n raw.data.toList).toArray⟩ := ⟨_, rfl⟩
  rw [← hV]
  have hcs' := Lib.hid hcs
  have hb' := Lib.hid hb
  have hl' := Lib.hid hl
  have hV' := Lib.hid hV
  clear hcs hb hl hV
  have hx : ((({ data := #[0, 0] } : ByteArray).extract 0 l ++ raw).data.toList) = List.replicate l 0 ++ raw.data.toList := lead_bytes l hl2 raw
  have hxs : (({ data := #[0, 0] } : ByteArray).extract 0 l ++ raw).size = l + raw.size := by
    have := congrArg List.length hx
    rw [Array.length_toList, List.length_append, List.length_replicate, Array.length_toList] at this
    exact this
  obtain ⟨T, hT⟩ : ∃ T : ByteArray, T = strL (encL (List.replicate l 0 ++ raw.data.toList)) := ⟨_, rfl⟩
  have hTs : l ≤ T.size := by
    rw [hT]
    have := lead_le_enc l raw (by omega) hm3
    exact this
  have E := Lib.hid (fun (wx : World) => encode_full (({ data := #[0, 0] } : ByteArray).extract 0 l ++ raw) wx (by unfold maxLen; omega))
  have hE1 : encS ((({ data := #[0, 0] } : ByteArray).extract 0 l ++ raw).data.toList) = T := by
    rw [hx, hT]; unfold encS; rw [if_neg (by rw [List.length_append, List.length_replicate, Array.length_toList]; show ¬ (65536 < l + raw.size ∨ (l + raw.size) % 3 ≠ 0); omega)]
  have hE2 : encE ((({ data := #[0, 0] } : ByteArray).extract 0 l ++ raw).data.toList) = 0 := by
    rw [hx]; unfold encE; rw [List.length_append, List.length_replicate, Array.length_toList, if_neg (show ¬ 65536 < l + raw.data.size from fun (h : 65536 < l + raw.size) => by omega), if_neg (show ¬ (l + raw.data.size) % 3 ≠ 0 from fun (h : (l + raw.size) % 3 ≠ 0) => h hm3)]
  rw [hE1, hE2] at E
  have hTs2 : T.size ≤ 100000 := by
    rw [hT]
    show (encL (List.replicate l 0 ++ raw.data.toList)).length ≤ _
    rw [encL_length ((l + raw.size) / 3) _ (by rw [List.length_append, List.length_replicate, Array.length_toList]; show l + raw.size = _; omega)]
    omega
  have hcs4 : cs.size ≤ 4 := by
    rw [hcs'.out]
    show (codeL n).length ≤ 4
    rcases eight_codes (c := n) (by omega) (by omega) with rfl | rfl | rfl | rfl | rfl | rfl | rfl | rfl <;> decide
  have hT' := Lib.hid hT
  clear hE1 hE2 hT hx hxs
  have hl0 : (0 : Int) ≤ (l : Int) := by omega
  have hl1 : (l : Int) ≤ 2 := by omega
  have hcat2 : ¬ 9223372036854775807 < cs.size + (T.size - l) := by omega
  have hcat : ¬ 9223372036854775807 < l + b := by omega
  have hT0 : (l : Int) ≤ (T.size : Int) := by omega
  have HL := Lib.hid (hL.below (B := w.heap.size) hL.lt ((Below.refl _ _).alloc (Nat.le_refl _) (.cells #[.int .i64 (n : Int), .string raw] 69)))
  have p0 := two_new w (.int .i64 (n : Int)) (.string raw) 69
  clear hL
  go_enter Tryd.func59, Tryd.ntmps59
  go_wp2_with (go_at_call 75; (with_reducible refine (C.out _ HL.out).mono ?_); rintro e w1 ⟨rfl, hb1⟩; have p1 := two_keep hb1 (by simp) p0; have hg : w.heap.size < w1.heap.size := (by have := hb1.size; simp at this; omega))
  have s1 : (w1.alloc (.cells #[.string cs, .int .i64 (b : Int)] 83)).cell? ⟨w.heap.size, 1, none⟩ = some (.string raw) ∧ (w1.alloc (.cells #[.string cs, .int .i64 (b : Int)] 83)).cell? ⟨w1.heap.size, 0, none⟩ = some (.string cs) ∧ (w1.alloc (.cells #[.string cs, .int .i64 (b : Int)] 83)).cell? ⟨w1.heap.size, 1, none⟩ = some (.int .i64 (b : Int)) :=
    ⟨(two_keep ((Below.refl w1.heap.size w1).alloc (Nat.le_refl _) _) hg p1).2, two_new w1 (.string cs) (.int .i64 (b : Int)) 83⟩
  have b1 := (((Below.refl w.heap.size w).alloc (Nat.le_refl _) _).trans (hb1.mono (by simp))).alloc (o := .cells #[.string cs, .int .i64 (b : Int)] 83) (Nat.le_of_lt hg)
  have g1 : w1.heap.size < (w1.alloc (.cells #[.string cs, .int .i64 (b : Int)] 83)).heap.size := by simp
  clear p0 p1 HL hb1
  go_region_held3 (fun w' => w'.cell? ⟨w.heap.size, 1, none⟩ = some (.string raw) ∧ w'.cell? ⟨w1.heap.size, 0, none⟩ = some (.string cs) ∧ w'.cell? ⟨w1.heap.size, 1, none⟩ = some (.int .i64 (b : Int))) (first | exact s1 | exact s2 | exact s3)
    (first
      | (go_at_call 77; refine (Ld.out _).mono ?_; rintro e w2 ⟨rfl, hb2⟩; have s2 := three_keep hb2 (Nat.lt_trans hg g1) g1 s1; have g2 := Nat.lt_of_lt_of_le g1 hb2.size)
      | (go_at_call 76; refine (E.out _).mono ?_; rintro e w3 ⟨rfl, hb3⟩; have s3 := three_keep hb3 (Nat.lt_trans hg g2) g2 s2; have g3 := Nat.lt_of_lt_of_le g2 hb3.size))
  have b3 := (b1.drew.trans (hb2.mono (Nat.le_of_lt (Nat.lt_trans hg g1)))).trans (hb3.mono (Nat.le_of_lt (Nat.lt_trans hg g2)))
  have k3 := s3.2
  clear s1 s2 s3 b1 hb2 hb3 g1 g2
  go_wp2
  go_region_held3 (fun w' => w'.cell? ⟨w1.heap.size, 0, none⟩ = some (.string cs) ∧ w'.cell? ⟨w1.heap.size, 1, none⟩ = some (.int .i64 (b : Int))) (first | exact k3 | exact k4)
    (first | (go_at_call 77; refine (Ld.out _).mono ?_; rintro e w4 ⟨rfl, hb4⟩; have k4 := two_keep hb4 g3 k3))
  go_wp2
  go_ret2
  refine ⟨?_, b3.drew.trans (hb4.mono (Nat.le_of_lt (Nat.lt_trans hg g3)))⟩
  show Ending.returned (.tuple #[.string (cs ++ T.extract l T.size), .int .i64 0]) = _
  rw [show cs ++ T.extract l T.size = V by rw [hV'.out, hcs'.out, hT'.out, hl'.out]; exact cat_text _ _ _]
set_option maxRecDepth 100000 in
theorem yprim_any (c : Int) (raw : ByteArray) (w : World) (hr : raw.size ≤ maxLen - 2) (hL : Lay w) : Calls Tryd.prog 59 #[.agg #[.int .i64 c, .string raw]] w fun e w' => e = .returned (.tuple #[.string (primS c raw), .int .i64 (primE c raw)]) ∧ Below w.heap.size w w' := by
  unfold maxLen at hr
  have hlt := hL.lt
  have HL := Lib.hid (hL.below (B := w.heap.size) hL.lt ((Below.refl _ _).alloc (Nat.le_refl _) (.cells #[.int .i64 c, .string raw] 69)))
  have p0 := two_new w (.int .i64 c) (.string raw) 69
  have C := Lib.hid (fun (wx : World) (hx : Lay wx) => layout_any c wx hx)
  by_cases h : 1 ≤ c ∧ c ≤ 8
  · by_cases hs : raw.size = rawN c.toNat
    · obtain ⟨n, rfl⟩ : ∃ n : Nat, c = (n : Int) := ⟨c.toNat, by omega⟩
      unfold primS primE
      rw [if_pos ⟨h, hs⟩, if_pos h, if_pos hs]
      exact yprim_good n raw w (by omega) (by omega) hs hL
    · unfold primS primE
      rw [if_neg (fun h => hs h.2), if_pos h, if_neg hs]
      unfold layR at C
      rw [decide_eq_true h] at C
      have hne : ¬ (raw.size : Int) = rawI c := by unfold rawI; omega
      obtain ⟨r, hr⟩ : ∃ r, r = rawI c := ⟨_, rfl⟩
      rw [← hr] at hne C
      clear hr h hs hL
      go_enter Tryd.func59, Tryd.ntmps59
      go_wp2_with (go_at_call 75; (with_reducible refine (C.out _ HL.out).mono ?_); rintro e w1 ⟨rfl, hb1⟩; have p1 := two_keep hb1 (by simp) p0; have hg : w.heap.size < w1.heap.size := (by have := hb1.size; simp at this; omega); have q1 := (two_keep ((Below.refl w1.heap.size w1).alloc (Nat.le_refl _) (.cells #[.string ⟨(codeL c.toNat).toArray⟩, .int .i64 r] 83)) hg p1).2)
      go_ret2
      exact ⟨rfl, (((Below.refl w.heap.size w).alloc (Nat.le_refl _) _).trans (hb1.mono (by simp))).alloc (Nat.le_of_lt hg) _⟩
  · unfold primS primE
    rw [if_neg (fun g => h g.1), if_neg h]
    rw [layR_out c (by omega)] at C
    clear h hL hr
    go_enter Tryd.func59, Tryd.ntmps59
    go_wp2_with (go_at_call 75; (with_reducible refine (C.out _ HL.out).mono ?_); rintro e w1 ⟨rfl, hb1⟩)
    go_ret2
    exact ⟨rfl, (((Below.refl w.heap.size w).alloc (Nat.le_refl _) _).trans (hb1.mono (by simp))).alloc (by have := hb1.size; simp at this; omega) _⟩

theorem primE_zero (c : Int) (raw : ByteArray) (h : primE c raw ≠ 0) : primS c raw = ⟨#[]⟩ := by
  unfold primE at h
  unfold primS
  by_cases h1 : 1 ≤ c ∧ c ≤ 8
  · by_cases h2 : raw.size = rawN c.toNat
    · rw [if_pos h1, if_pos h2] at h; exact absurd rfl h
    · rw [if_neg (fun g => h2 g.2)]
  · rw [if_neg (fun g => h1 g.1)]
set_option maxRecDepth 100000 in
theorem ymake_any (c : Int) (raw : ByteArray) (w : World) (hr : raw.size ≤ maxLen - 2) (hL : Lay w) : Calls Tryd.prog 33 #[.int .i64 c, .string raw] w fun e w' => e = .returned (.string (primS c raw)) ∧ Below w.heap.size w w' := by
  have C := Lib.hid (fun (wx : World) (hx : Lay wx) => yprim_any c raw wx hr hx)
  have HZ := Lib.hid (primE_zero c raw)
  obtain ⟨x, hx⟩ : ∃ x, x = primE c raw := ⟨_, rfl⟩
  obtain ⟨s, hs⟩ : ∃ s, s = primS c raw := ⟨_, rfl⟩
  rw [← hx, ← hs] at C
  rw [← hx, ← hs] at HZ
  rw [← hs]
  have HL := Lib.hid hL
  clear hx hs hL
  by_cases h : x = 0
  · subst h
    go_enter Tryd.func33, Tryd.ntmps33
    go_wp2_with (go_at_call 59; (with_reducible refine (C.out _ HL.out).mono ?_); rintro e w1 ⟨rfl, hb1⟩)
    go_ret
    exact ⟨rfl, hb1⟩
  · have hx1 : (x != 0) = true := by simp [h]
    have hs := Lib.hid (HZ.out h)
    go_enter Tryd.func33, Tryd.ntmps33
    go_wp2_with (go_at_call 59; (with_reducible refine (C.out _ HL.out).mono ?_); rintro e w1 ⟨rfl, hb1⟩)
    go_ret
    exact ⟨by rw [hs.out]; rfl, hb1⟩



end Go.Proofs.YtpophimnoakinaaDoor
