/- Contract of the document's own Decode of primitive. -/
import Derived.Test.YtpophimnoakinaaDoorPenc
import Derived.Test.YtpophimnoakinaaDoorRefc
import Derived.OneCell
import Derived.Laws.StructEq
namespace Go.Proofs.YtpophimnoakinaaDoor
open Go.ChangeShapes Go.WideShapes Go.ChangeAt Go.RowKit
set_option linter.unusedVariables false
set_option linter.unusedSimpArgs false

/-- Whether a text begins with a code's characters. -/
def hitP (t : ByteArray) (c : Nat) : Bool := decide ((codeL c).length ≤ t.size ∧ t.extract 0 (codeL c).length = ⟨(codeL c).toArray⟩)
/-- What Decode hands to base64's Decode. -/
def bodyP (t : ByteArray) (c : Nat) : ByteArray := (⟨#[65, 65]⟩ : ByteArray).extract 0 (leadN c) ++ t.extract (codeL c).length (sizeN c)
/-- The raw bytes with their lead. -/
def rawP (t : ByteArray) (c : Nat) : ByteArray := decFS (bodyP t c).data.toList
def rawE (t : ByteArray) (c : Nat) : Int := decFE (bodyP t c).data.toList
def primZ : Value := .agg #[.int .i64 0, .string ⟨#[]⟩]
/-- What Decode returns once a code is hit. -/
def outP (t : ByteArray) (c : Nat) : Value :=
  if t.size < sizeN c then .tuple #[primZ, .int .i64 0, .int .i64 8]
  else if rawE t c ≠ 0 ∨ (rawP t c).extract 0 (leadN c) ≠ (⟨#[0, 0]⟩ : ByteArray).extract 0 (leadN c) then .tuple #[primZ, .int .i64 0, .int .i64 4]
  else .tuple #[.agg #[.int .i64 c, .string ((rawP t c).extract (leadN c) (rawP t c).size)], .int .i64 (sizeN c), .int .i64 0]
/-- What Decode returns. -/
def decP (t : ByteArray) : Value :=
  match (List.range 8).find? (fun i => hitP t (i + 1)) with
  | none => .tuple #[primZ, .int .i64 0, .int .i64 7]
  | some i => outP t (i + 1)
theorem decP_hit (t : ByteArray) (c : Nat) (h1 : 1 ≤ c) (h8 : c ≤ 8) (hn : ∀ d, 1 ≤ d → d < c → hitP t d = false) (h : hitP t c = true) : decP t = outP t c := by
  obtain ⟨i, rfl⟩ : ∃ i, c = i + 1 := ⟨c - 1, by omega⟩
  have : (List.range 8).find? (fun i => hitP t (i + 1)) = some i := by
    rw [List.find?_range_eq_some]
    exact ⟨h, by simp; omega, fun j hj => by simp [hn (j + 1) (by omega) (by omega)]⟩
  unfold decP
  rw [this]
theorem decP_none (t : ByteArray) (hn : ∀ d, 1 ≤ d → d < 9 → hitP t d = false) : decP t = .tuple #[primZ, .int .i64 0, .int .i64 7] := by
  have : (List.range 8).find? (fun i => hitP t (i + 1)) = none := by
    rw [List.find?_eq_none]
    intro i hi
    simp at hi
    simp [hn (i + 1) (by omega) (by omega)]
  unfold decP
  rw [this]

theorem two_of {w : World} {g : Nat} {u v : Value} {T : TypeId} (h : w.heap[g]? = some (.cells #[u, v] T (0, 0))) : w.cell? ⟨g, 0, none⟩ = some u ∧ w.cell? ⟨g, 1, none⟩ = some v := by
  constructor <;> simp [World.cell?, h]
theorem two_set0 {w : World} {g : Nat} {u v : Value} {T : TypeId} (h : w.heap[g]? = some (.cells #[u, v] T (0, 0))) (x : Value) : (w.setCell ⟨g, 0, none⟩ x).heap[g]? = some (.cells #[x, v] T (0, 0)) := by
  have hlt := lt_of_block h
  have h' : w.heap[g] = .cells #[u, v] T (0, 0) := by simpa [Array.getElem?_eq_getElem hlt] using h
  show (w.heap.modify g _)[g]? = _
  rw [Array.getElem?_eq_getElem (by simpa using hlt), Array.getElem_modify_self, h']
  rfl
theorem two_set1 {w : World} {g : Nat} {u v : Value} {T : TypeId} (h : w.heap[g]? = some (.cells #[u, v] T (0, 0))) (x : Value) : (w.setCell ⟨g, 1, none⟩ x).heap[g]? = some (.cells #[u, x] T (0, 0)) := by
  have hlt := lt_of_block h
  have h' : w.heap[g] = .cells #[u, v] T (0, 0) := by simpa [Array.getElem?_eq_getElem hlt] using h
  show (w.heap.modify g _)[g]? = _
  rw [Array.getElem?_eq_getElem (by simpa using hlt), Array.getElem_modify_self, h']
  rfl
/-- Both cells of a block that is written whole. -/
theorem two_put {w : World} {g : Nat} {u v : Value} {T : TypeId} (h : w.heap[g]? = some (.cells #[u, v] T (0, 0))) (x y : Value) : (w.setCell ⟨g, 0, none⟩ x).cell? ⟨g, 0, none⟩ = some x ∧ ((w.setCell ⟨g, 0, none⟩ x).setCell ⟨g, 1, none⟩ y).cell? ⟨g, 1, none⟩ = some y :=
  ⟨(two_of (two_set0 h x)).1, (two_of (two_set1 (two_set0 h x) y)).2⟩

theorem keepB {b g : Nat} {w w' : World} {o : Obj} (hb : Below b w w') (hg : g < b) (h : w.heap[g]? = some o) : w'.heap[g]? = some o := (hb.block g hg).trans h
theorem free_two {w : World} {g : Nat} {u v : Value} {T : TypeId} (h : w.heap[g]? = some (.cells #[u, v] T (0, 0))) : w.frozen? ⟨g, 0, none⟩ = false ∧ w.frozen? ⟨g, 1, none⟩ = false := by
  constructor <;> simp [World.frozen?, h]
theorem belowQ {B : Nat} {a w : World} (h : Below B a w) (n : Nat) : Below B a (w.drewN n) := ⟨h.os, h.tape, h.output, h.size, h.block⟩
theorem same_str {a b : ByteArray} (h : a = b) : (a.toList == b.toList) = true := by rw [h]; exact beq_self_eq_true _
theorem other_str {a b : ByteArray} (h : a ≠ b) : (a.toList == b.toList) = false := by
  rw [beq_eq_false_iff_ne]
  intro e
  rw [ByteArray.toList_eq, ByteArray.toList_eq] at e
  exact h (bytes_inj e)
theorem bodyP_size (t : ByteArray) (c : Nat) (h1 : 1 ≤ c) (h8 : c ≤ 8) (h : sizeN c ≤ t.size) : (bodyP t c).size = 4 * ((leadN c + rawN c) / 3) ∧ (codeL c).length ≤ sizeN c ∧ sizeN c ≤ 836 := by
  have a := size_code c h1 h8
  have hl := lead_le c
  have hb : (codeL c).length ≤ sizeN c ∧ sizeN c ≤ 836 := by
    rcases eight_codes h1 h8 with rfl | rfl | rfl | rfl | rfl | rfl | rfl | rfl <;> decide
  refine ⟨?_, hb⟩
  unfold bodyP
  rw [ByteArray.size_append, ByteArray.size_extract, ByteArray.size_extract]
  show min (leadN c) 2 - 0 + _ = _
  omega
theorem rawP_size (t : ByteArray) (c : Nat) (h1 : 1 ≤ c) (h8 : c ≤ 8) (h : sizeN c ≤ t.size) (he : rawE t c = 0) : (rawP t c).size = leadN c + rawN c := by
  obtain ⟨hb, -, hs⟩ := bodyP_size t c h1 h8 h
  have hm := lead_raw c
  have hl : (bodyP t c).data.toList.length = 4 * ((leadN c + rawN c) / 3) := by rw [Array.length_toList]; exact hb
  have hk : (leadN c + rawN c) / 3 ≤ 209 := by rcases eight_codes h1 h8 with rfl | rfl | rfl | rfl | rfl | rfl | rfl | rfl <;> decide
  unfold rawE decFE decE at he
  unfold rawP decFS decS
  rw [hl] at he ⊢
  rw [if_neg (by omega)] at he ⊢
  rw [if_neg (by omega)] at he
  by_cases ha : allD (bodyP t c).data.toList = true
  · rw [if_pos ha]
    show (decL _).length = _
    rw [decL_length _ _ hl]
    omega
  · rw [if_neg ha] at he; cases he

set_option maxHeartbeats 1600000 in
set_option maxRecDepth 100000 in
theorem rdecp_any (t : ByteArray) (w : World) (hr : t.size ≤ maxLen - 2) : Calls Tryd.prog 65 #[.string t] w fun e w' => e = .returned (decP t) ∧ Below w.heap.size w w' := by
  unfold maxLen at hr
  obtain ⟨D, hD⟩ : ∃ D, D = decP t := ⟨_, rfl⟩
  rw [← hD]
  have HD := Lib.hid hD
  clear hD
  go_enter Tryd.func65, Tryd.ntmps65
  go_wp2
  go_loopw [5] (fun c wr => ∃ n : Nat, 1 ≤ n ∧ n ≤ 9 ∧ c = .int .i64 n ∧ Below w.heap.size w wr ∧ w.heap.size < wr.heap.size ∧ wr.heap[w.heap.size]? = some (.cells #[.int .i64 0, .string ⟨#[]⟩] 69 (0, 0)) ∧ ∀ d, 1 ≤ d → d < n → hitP t d = false) (fun c _ => 9 - (intOf c).toNat)
  case atStart => exact ⟨1, by omega, by omega, rfl, (Below.refl _ _).alloc (Nat.le_refl _) _, by simp, heap_alloc_new _ _, fun d h1 h2 => by omega⟩
  case round =>
    obtain ⟨n, h1, h9, rfl, hbel, hgw, hB, hno⟩ := hrel
    have hf0 : wr.frozen? ⟨w.heap.size, 0, none⟩ = false := by simp [World.frozen?, hB]
    have hf1 : wr.frozen? ⟨w.heap.size, 1, none⟩ = false := by simp [World.frozen?, hB]
    have hc0 : wr.cell? ⟨w.heap.size, 0, none⟩ = some (.int .i64 0) := (two_of hB).1
    have hc1 : wr.cell? ⟨w.heap.size, 1, none⟩ = some (.string ⟨#[]⟩) := (two_of hB).2
    by_cases h8 : n ≤ 8
    · have C := Lib.hid (fun (wx : World) => rcode_any (n : Int) wx)
      rw [show codeV (n : Int) = .tuple #[.string ⟨(codeL n).toArray⟩, .bool true] from if_pos ⟨by omega, by omega⟩] at C
      have Sz := Lib.hid (fun (wx : World) => rsize_any (n : Int) wx)
      rw [show sizeI (n : Int) = (sizeN n : Int) from rfl] at Sz
      have Ld := Lib.hid (fun (wx : World) => rlead_any (n : Int) wx)
      rw [show leadI (n : Int) = (leadN n : Int) from rfl] at Ld
      have hl2 : leadN n ≤ 2 := lead_le n
      have hhit : hitP t n = decide ((⟨(codeL n).toArray⟩ : ByteArray).size ≤ t.size ∧ t.extract 0 (⟨(codeL n).toArray⟩ : ByteArray).size = ⟨(codeL n).toArray⟩) := rfl
      have hcs4 : (⟨(codeL n).toArray⟩ : ByteArray).size ≤ 4 := by
        show (codeL n).length ≤ 4
        rcases eight_codes (c := n) (by omega) (by omega) with rfl | rfl | rfl | rfl | rfl | rfl | rfl | rfl <;> decide
      have hout : decP t = outP t n ∨ hitP t n = false := by
        cases hh : hitP t n
        · exact .inr rfl
        · exact .inl (decP_hit t n h1 h8 hno hh)
      have HO := Lib.hid hout
      have HNO := Lib.hid hno
      clear hout hno
      obtain ⟨cs, hcs⟩ : ∃ cs : ByteArray, cs = ⟨(codeL n).toArray⟩ := ⟨_, rfl⟩
      rw [← hcs] at C hhit hcs4
      have HCS := Lib.hid hcs
      have HH := Lib.hid hhit
      clear hcs hhit
      have hd : decide ((n : Int) ≤ 8) = true := decide_eq_true (by omega)
      have hn1 : IntKind.i64.wrap ((n : Int) + 1) = (n : Int) + 1 := by rw [IntKind.wrap_i64]; omega
      by_cases hlen : t.size < cs.size
      · have hl1 : (t.size : Int) < (cs.size : Int) := by omega
        go_wp2_with (go_at_call 78; (with_reducible refine (C.out _).mono ?_); rintro e w1 ⟨rfl, hb1⟩)
        have hno2 : hitP t n = false := by rw [HH.out]; simp; omega
        go_roundw
        case rel => exact ⟨n + 1, by omega, by omega, by go_num, hbel.trans (hb1.mono (by omega)), Nat.lt_of_lt_of_le hgw hb1.size, keepB hb1 hgw hB, fun d a b => by rcases Nat.lt_or_ge d n with h | h; exact HNO.out d a h; rw [show d = n by omega]; exact hno2⟩
        case measure => simp [intOf]; omega
      · have hl1 : ¬ (t.size : Int) < (cs.size : Int) := by omega
        have hl3 : (cs.size : Int) ≤ (t.size : Int) := by omega
        have hl0 : (0 : Int) ≤ (cs.size : Int) := by omega
        by_cases heq : t.extract 0 cs.size = cs
        · have hq := same_str heq
          have hD1 : D = outP t n := by
            have hh : hitP t n = true := by rw [HH.out]; simp; exact ⟨by omega, heq⟩
            rcases HO.out with h | h
            · rw [HD.out, h]
            · rw [hh] at h; cases h
          unfold outP at hD1
          by_cases hs : t.size < sizeN n
          · rw [if_pos hs] at hD1
            have HD1 := Lib.hid hD1
            clear hD1
            have hs1 : (t.size : Int) < (sizeN n : Int) := by omega
            go_wp2_with (first | (go_at_call 78; (with_reducible refine (C.out _).mono ?_); rintro e w1 ⟨rfl, hb1⟩) | (go_at_call 85; (with_reducible refine (Sz.out _).mono ?_); rintro e w2 ⟨rfl, hb2⟩; have hB2 := keepB (hb1.trans (hb2.mono hb1.size)) hgw hB; have hf2 := free_two hB2; have hc2 := two_of hB2))
            refine bodyPost_ret (v := .tuple #[primZ, .int .i64 0, .int .i64 8]) ?_ ?_ ?_
            rotate_left
            · rfl
            · exact ⟨by rw [HD1.out], ((hbel.trans ((hb1.trans (hb2.mono hb1.size)).mono (Nat.le_of_lt hgw))).setCell (Nat.le_refl _) _).setCell (Nat.le_refl _) _⟩
            · have q := two_put hB2 (.int .i64 0) (.string ⟨#[]⟩)
              have q0 := q.1
              have q1 := q.2
              simp [results, Tryd.results65, go_sem, q0, q1, primZ]
          · rw [if_neg hs] at hD1
            have HD1 := Lib.hid hD1
            clear hD1
            have hs1 : ¬ (t.size : Int) < (sizeN n : Int) := by omega
            have hs2 : (sizeN n : Int) ≤ (t.size : Int) := by omega
            have hs0 : (0 : Int) ≤ (sizeN n : Int) := by omega
            have ld0 : (0 : Int) ≤ (leadN n : Int) := by omega
            have ld2 : (leadN n : Int) ≤ 2 := by omega
            obtain ⟨bs1, bs2, bs3⟩ := bodyP_size t n h1 h8 (by omega)
            have bs2' : (cs.size : Int) ≤ (sizeN n : Int) := by rw [HCS.out]; show ((codeL n).length : Int) ≤ _; omega
            have hbody : bodyP t n = ({ data := #[65, 65] } : ByteArray).extract 0 (leadN n) ++ t.extract cs.size (sizeN n) := by rw [HCS.out]; rfl
            have E := Lib.hid (fun (wx : World) => rdecode_full (bodyP t n) wx (by rw [bs1]; have := lead_raw n; unfold maxLen; rcases eight_codes h1 h8 with rfl | rfl | rfl | rfl | rfl | rfl | rfl | rfl <;> decide))
            rw [show decFS (bodyP t n).data.toList = rawP t n from rfl, show decFE (bodyP t n).data.toList = rawE t n from rfl, hbody] at E
            have hcat : ¬ 9223372036854775807 < leadN n + (min (sizeN n) t.size - cs.size) := by omega
            have RS := Lib.hid (rawP_size t n h1 h8 (by omega))
            clear bs1 bs2 bs3 hbody
            obtain ⟨R, hR⟩ : ∃ R, R = rawP t n := ⟨_, rfl⟩
            obtain ⟨x, hx⟩ : ∃ x, x = rawE t n := ⟨_, rfl⟩
            obtain ⟨l, hl⟩ : ∃ l, l = leadN n := ⟨_, rfl⟩
            obtain ⟨z, hz⟩ : ∃ z, z = sizeN n := ⟨_, rfl⟩
            have HD2 := HD1.out
            rw [← hR, ← hx, ← hl, ← hz] at HD2
            have HD3 := Lib.hid HD2
            rw [← hR, ← hx] at E
            rw [← hR, ← hx] at RS
            rw [← hl] at E RS Ld hl2 ld0 ld2 hcat
            rw [← hz] at E Sz hs1 hs2 hs0 bs2' hcat
            clear hR hx hl hz HD2 HD1 hs
            go_wp2_with (first | (go_at_call 78; (with_reducible refine (C.out _).mono ?_); rintro e w1 ⟨rfl, hb1⟩) | (go_at_call 85; (with_reducible refine (Sz.out _).mono ?_); rintro e w2 ⟨rfl, hb2⟩; have b2 := hbel.trans ((hb1.trans (hb2.mono hb1.size)).mono (Nat.le_of_lt hgw)); have g2 := Nat.lt_of_lt_of_le (Nat.lt_of_lt_of_le hgw hb1.size) hb2.size; have hB2 := keepB (hb1.trans (hb2.mono hb1.size)) hgw hB) | (go_at_call 80; (with_reducible refine (Ld.out _).mono ?_); rintro e w3 ⟨rfl, hb3⟩; have b3 := b2.trans (hb3.mono (Nat.le_of_lt g2)); have g3 := Nat.lt_of_lt_of_le g2 hb3.size; have hB3 := keepB hb3 g2 hB2; clear hb1 hb2 hb3))
            go_region_held3 (fun w' => w'.heap[w.heap.size]? = some (.cells #[.int .i64 0, .string ⟨#[]⟩] 69 (0, 0))) (first | exact hB3 | exact hB4 | exact hB5)
              (first | (go_at_call 85; refine (Sz.out _).mono ?_; rintro e w4 ⟨rfl, hb4⟩; have b4 := (b3.drew).trans (hb4.mono (Nat.le_of_lt g3)); have g4 := Nat.lt_of_lt_of_le g3 hb4.size; have hB4 := keepB hb4 g3 hB3) | (go_at_call 86; refine (E.out _).mono ?_; rintro e w5 ⟨rfl, hb5⟩; have b5 := b4.trans (hb5.mono (Nat.le_of_lt g4)); have g5 := Nat.lt_of_lt_of_le g4 hb5.size; have hB5 := keepB hb5 g4 hB4))
            clear hb4 hb5 b2 b3 b4 g2 g3 g4 hB2 hB3 hB4
            have hf5 := free_two hB5
            have hc5 := two_of hB5
            by_cases hx0 : x = 0
            · have hxd : (x != 0) = false := by simp [hx0]
              have hRs := RS.out hx0
              have hRl : (l : Int) ≤ (R.size : Int) := by rw [hRs]; omega
              clear hRs
              by_cases hz0 : R.extract 0 l = ({ data := #[0, 0] } : ByteArray).extract 0 l
              · have hzq := same_str hz0
                have HD4 := HD3.out
                rw [if_neg (by simp [hx0, hz0])] at HD4
                have HD5 := Lib.hid HD4
                have HZ := Lib.hid hz0
                clear HD4 hz0 HD3
                go_wp2
                go_quiet (fail)
                go_wp2
                have b6 := belowQ b5 nq
                have hB6 : (w5.drewN nq).heap[w.heap.size]? = _ := hB5
                have g6 : w.heap.size < (w5.drewN nq).heap.size := g5
                go_region_held3 (fun _ => True) (trivial)
                  (first | (go_at_call 85; refine (Sz.out _).mono ?_; rintro e w7 ⟨rfl, hb7⟩; have b7 := (b6.drew).trans (hb7.mono (Nat.le_of_lt g6)); have hB7 := keepB hb7 g6 hB6; have hf7 := free_two hB7; have hc7 := two_of hB7))
                go_wp2
                refine bodyPost_ret (v := .tuple #[.agg #[.int .i64 n, .string (R.extract l R.size)], .int .i64 z, .int .i64 0]) ?_ ?_ ?_
                rotate_left
                · rfl
                · exact ⟨by rw [HD5.out], (b7.setCell (Nat.le_refl _) _).setCell (Nat.le_refl _) _⟩
                · have q := two_put hB7 (.int .i64 n) (.string (R.extract l R.size))
                  have q0 := q.1
                  have q1 := q.2
                  simp [results, Tryd.results65, go_sem, q0, q1]
              · have hzq := other_str hz0
                have HD4 := HD3.out
                rw [if_pos (.inr hz0)] at HD4
                have HD5 := Lib.hid HD4
                clear HD4 HD3 hz0
                go_wp2
                go_quiet (fail)
                go_wp2
                refine bodyPost_ret (v := .tuple #[primZ, .int .i64 0, .int .i64 4]) ?_ ?_ ?_
                rotate_left
                · rfl
                · exact ⟨by rw [HD5.out], ((belowQ b5 _).setCell (Nat.le_refl _) _).setCell (Nat.le_refl _) _⟩
                · have q := two_put (w := w5.drewN nq) hB5 (.int .i64 0) (.string ⟨#[]⟩)
                  have q0 := q.1
                  have q1 := q.2
                  simp [results, Tryd.results65, go_sem, q0, q1, primZ]
            · have hxd : (x != 0) = true := by simp [hx0]
              have HD4 := HD3.out
              rw [if_pos (.inl hx0)] at HD4
              have HD5 := Lib.hid HD4
              clear HD4 HD3
              go_wp2
              go_quiet (fail)
              go_wp2
              refine bodyPost_ret (v := .tuple #[primZ, .int .i64 0, .int .i64 4]) ?_ ?_ ?_
              rotate_left
              · rfl
              · exact ⟨by rw [HD5.out], ((belowQ b5 _).setCell (Nat.le_refl _) _).setCell (Nat.le_refl _) _⟩
              · have q := two_put (w := w5.drewN nq) hB5 (.int .i64 0) (.string ⟨#[]⟩)
                have q0 := q.1
                have q1 := q.2
                simp [results, Tryd.results65, go_sem, q0, q1, primZ]
        · have hq := other_str heq
          go_wp2_with (go_at_call 78; (with_reducible refine (C.out _).mono ?_); rintro e w1 ⟨rfl, hb1⟩)
          have hno2 : hitP t n = false := by rw [HH.out]; simp; intro _; exact heq
          go_roundw
          case rel => exact ⟨n + 1, by omega, by omega, by go_num, hbel.trans (hb1.mono (by omega)), Nat.lt_of_lt_of_le hgw hb1.size, keepB hb1 hgw hB, fun d a b => by rcases Nat.lt_or_ge d n with h | h; exact HNO.out d a h; rw [show d = n by omega]; exact hno2⟩
          case measure => simp [intOf]; omega
    · have HN := Lib.hid (decP_none t (fun d a b => hno d a (by omega)))
      have hd : decide ((n : Int) ≤ 8) = false := decide_eq_false (by omega)
      go_wp2
      refine bodyPost_ret (v := .tuple #[primZ, .int .i64 0, .int .i64 7]) ?_ ?_ ?_
      rotate_left
      · rfl
      · exact ⟨by rw [HD.out, HN.out], (hbel.setCell (Nat.le_refl _) _).setCell (Nat.le_refl _) _⟩
      · have q := two_put hB (.int .i64 0) (.string ⟨#[]⟩)
        have q0 := q.1
        have q1 := q.2
        simp [results, Tryd.results65, go_sem, q0, q1, primZ]

end Go.Proofs.YtpophimnoakinaaDoor
