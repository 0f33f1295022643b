/- The library in plain words: what the reader calls. -/
import Derived.Test.YtdppdonaojdceaaGreatDoorJback
import Derived.Test.YtdppdonaojdceaaGreatDoorJlay
import Derived.Lib.TrimUEq
import Derived.Laws.RangeString
import Derived.Laws.Runes
import Derived.WalkMore
import Derived.BigQuiet
import Derived.Deep.LoopGhost
namespace Go.Proofs.YtdppdonaojdceaaGreatDoor
open Go Go.ChangeShapes Go.WideShapes Go.ChangeAt Go.RowKit
set_option linter.unusedVariables false
set_option linter.unusedSimpArgs false

theorem below_drewN {B : Nat} {a w : World} (h : Below B a w) (n : Nat) : Below B a (w.drewN n) := h.trans ⟨rfl, rfl, rfl, Nat.le_refl _, fun _ _ => rfl⟩
theorem enc_high (r : Int) (h : 128 ≤ r) : ∃ l : List UInt8, Utf8.encode r = ⟨l.toArray⟩ ∧ 2 ≤ l.length ∧ l.length ≤ 4 ∧ ∀ b, b ∈ l → 128 ≤ b.toNat := by
 obtain ⟨c, hc⟩ : ∃ c, c = (if Utf8.valid r then r.toNat else Utf8.runeError) := ⟨_, rfl⟩
 have hc128 : 128 ≤ c ∧ c ≤ 1114111 := by
  rw [hc]
  split
  ·rename_i hv
   unfold Utf8.valid at hv
   simp only [Bool.or_eq_true, Bool.and_eq_true, decide_eq_true_eq] at hv
   omega
  ·decide
 unfold Utf8.encode
 simp only [← hc]
 rw [if_neg (by omega)]
 have ho : ∀ n : Nat, n < 256 → (UInt8.ofNat n).toNat = n := fun n hn => by simp [UInt8.toNat_ofNat']; omega
 split
 ·refine ⟨[UInt8.ofNat (192 + c / 64), UInt8.ofNat (128 + c % 64)], rfl, by simp, by simp, fun b hb => ?_⟩
  simp only [List.mem_cons, List.not_mem_nil, or_false] at hb
  rcases hb with rfl | rfl <;> rw [ho _ (by omega)] <;> omega
 ·split
  ·refine ⟨[UInt8.ofNat (224 + c / 4096), UInt8.ofNat (128 + c / 64 % 64), UInt8.ofNat (128 + c % 64)], rfl, by simp, by simp, fun b hb => ?_⟩
   simp only [List.mem_cons, List.not_mem_nil, or_false] at hb
   rcases hb with rfl | rfl | rfl <;> rw [ho _ (by omega)] <;> omega
  ·refine ⟨[UInt8.ofNat (240 + c / 262144), UInt8.ofNat (128 + c / 4096 % 64), UInt8.ofNat (128 + c / 64 % 64), UInt8.ofNat (128 + c % 64)], rfl, by simp, by simp, fun b hb => ?_⟩
   simp only [List.mem_cons, List.not_mem_nil, or_false] at hb
   rcases hb with rfl | rfl | rfl | rfl <;> rw [ho _ (by omega)] <;> omega
theorem indexByte_none : ∀ {l : List UInt8} {c : UInt8}, (∀ b, b ∈ l → b ≠ c) → Lib.indexByte l c = -1
 | [], _, _ => rfl
 | b :: l, c, h => by
  have hb : (b == c) = false := by simpa using h b (by simp)
  rw [Lib.indexByte, hb, indexByte_none (fun b hb => h b (by simp [hb]))]
  rfl
theorem decN_high (n b0 b1 b2 b3 : Nat) (hn : 1 ≤ n) (h0 : 128 ≤ b0) : 128 ≤ (Lib.decodeN n b0 b1 b2 b3).1 ∧ ((Lib.decodeN n b0 b1 b2 b3).2 = 1 ∨ ((Lib.decodeN n b0 b1 b2 b3).2 = 2 ∧ 1 < n ∧ 128 ≤ b1) ∨ ((Lib.decodeN n b0 b1 b2 b3).2 = 3 ∧ 2 < n ∧ 128 ≤ b1 ∧ 128 ≤ b2) ∨ ((Lib.decodeN n b0 b1 b2 b3).2 = 4 ∧ 3 < n ∧ 128 ≤ b1 ∧ 128 ≤ b2 ∧ 128 ≤ b3)) := by
 unfold Lib.decodeN
 rw [if_neg (by omega)]
 split
 ·split
  ·exact ⟨by assumption, .inr (.inl ⟨rfl, by omega, by omega⟩)⟩
  ·exact ⟨by decide, .inl rfl⟩
 ·split
  ·split
   ·exact ⟨by show 128 ≤ _; omega, .inr (.inr (.inl ⟨rfl, by omega, by omega, by omega⟩))⟩
   ·exact ⟨by decide, .inl rfl⟩
  ·split
   ·split
    ·exact ⟨by show 128 ≤ _; omega, .inr (.inr (.inr ⟨rfl, by omega, by omega, by omega, by omega⟩))⟩
    ·exact ⟨by decide, .inl rfl⟩
   ·exact ⟨by decide, .inl rfl⟩
theorem dec_high (s : ByteArray) (i : Nat) (x : UInt8) (hx : s.data.toList[i]? = some x) (h : 128 ≤ x.toNat) : 128 ≤ (Utf8.decode s i).1 ∧ i + (Utf8.decode s i).2 ≤ s.size ∧ ∀ j b, i ≤ j → j < i + (Utf8.decode s i).2 → s.data.toList[j]? = some b → 128 ≤ b.toNat := by
 have hl : s.data.toList.length = s.size := by rw [Array.length_toList]; rfl
 have hi : i < s.size := by rw [← hl]; exact (List.getElem?_eq_some_iff.1 hx).1
 have hg : ∀ k b, s.data.toList[k]? = some b → s.data.toList.getD k 0 = b := fun k b e => by rw [List.getD_eq_getElem?_getD, e]; rfl
 rw [Lib.decode_N s i]
 obtain ⟨h1, h2⟩ := decN_high (s.data.toList.length - i) (s.data.toList.getD i 0).toNat (s.data.toList.getD (i + 1) 0).toNat (s.data.toList.getD (i + 2) 0).toNat (s.data.toList.getD (i + 3) 0).toNat (by omega) (by rw [hg _ _ hx]; exact h)
 refine ⟨h1, by omega, fun j b hj1 hj2 hb => ?_⟩
 have := hg j b hb
 have hj : j = i ∨ j = i + 1 ∨ j = i + 2 ∨ j = i + 3 := by omega
 rcases hj with rfl | rfl | rfl | rfl
 ·rw [hx] at hb; cases hb; exact h
 all_goals
  have hb' := congrArg UInt8.toNat this
  omega
theorem cutp_any (s p : ByteArray) (w : World) : Calls Tryz.prog 120 #[.string s, .string p] w fun e w' => e = .returned (.tuple #[.string ⟨(Lib.trimPrefix s.data.toList p.data.toList).toArray⟩, .bool (Lib.hasPrefix s.data.toList p.data.toList)]) ∧ w = w' := (Any.strings_CutPrefix jlays103 s p w).mono fun e w' h => ⟨h.1, h.2.symm⟩
theorem idxb_any (s : ByteArray) (c : Int) (w : World) : Calls Tryz.prog 160 #[.string s, .int .u8 c] w fun e w' => e = .returned (.int .i64 (Lib.indexByte s.data.toList c.toNat.toUInt8)) ∧ w = w' := (Any.strings_IndexByte jlays137 s c w).mono fun e w' h => ⟨h.1, h.2.symm⟩
theorem idxr_low (s : ByteArray) (r : Int) (w : World) (h0 : 0 ≤ r) (h1 : r < 128) : Calls Tryz.prog 148 #[.string s, .int .i32 r] w fun e w' => e = .returned (.int .i64 (Lib.indexByte s.data.toList r.toNat.toUInt8)) ∧ w = w' := (Any.strings_IndexRune_ascii jlays152 s r w h0 h1).mono fun e w' h => ⟨h.1, h.2.symm⟩
theorem vrune_any (r : Int) (w : World) (h0 : 0 ≤ r) : Calls Tryz.prog 161 #[.int .i32 r] w fun e w' => e = .returned (.bool (decide (r < 55296 ∨ (57343 < r ∧ r ≤ 1114111)))) ∧ w = w' := by
 by_cases h1 : r < 55296
 ·rw [decide_eq_true (.inl h1)]
  go_enter Tryz.func161, Tryz.ntmps161
  go_wp2
  go_ret
  exact ⟨rfl, rfl⟩
 ·by_cases h2 : 57343 < r
  ·by_cases h3 : r ≤ 1114111
   ·rw [decide_eq_true (.inr ⟨h2, h3⟩)]
    go_enter Tryz.func161, Tryz.ntmps161
    go_wp2
    go_ret
    exact ⟨rfl, rfl⟩
   ·rw [decide_eq_false (by omega)]
    go_enter Tryz.func161, Tryz.ntmps161
    go_wp2
    go_ret
    exact ⟨rfl, rfl⟩
  ·rw [decide_eq_false (by omega)]
   go_enter Tryz.func161, Tryz.ntmps161
   go_wp2
   go_ret
   exact ⟨rfl, rfl⟩
theorem sascii_any (n : Int) (w : World) : Calls Tryz.prog 149 #[.int .i64 n] w fun e w' => e = .returned (.bool (decide (8 < n))) ∧ w = w' := by
 go_enter Tryz.func149, Tryz.ntmps149
 go_wp2
 go_ret
 exact ⟨rfl, rfl⟩
set_option maxHeartbeats 4000000 in
set_option maxRecDepth 1000000 in
theorem idxr_high (s : ByteArray) (r : Int) (w : World) (h0 : 128 ≤ r) (hs : s.size ≤ 100) (hA : ∀ (j : Nat) b, s.data.toList[j]? = some b → b.toNat < 128) : Calls Tryz.prog 148 #[.string s, .int .i32 r] w fun e w' => e = .returned (.int .i64 (-1)) ∧ Below w.heap.size w w' := by
 have HA := Lib.hid hA
 have h01 : (0 : Int) ≤ r := by omega
 have h02 : ¬ r < 128 := by omega
 clear hA
 by_cases h65 : r = 65533
 ·subst h65
  go_enter Tryz.func148, Tryz.ntmps148
  go_upto_region 38 with fail
  go_loopg [5, 6] s.size (fun g _ _ wx => ∃ i : Nat, i + g = s.size ∧ wx = w.iter s i)
  case atStart => exact ⟨0, by omega, rfl⟩
  case round =>
   obtain ⟨i, hig, rfl⟩ := hrel
   cases gk with
   | zero =>
    obtain rfl : i = s.size := by omega
    have hnx := run_next_end (P := Tryz.prog) w s s.size
    go_wp2
    go_ret
    exact ⟨rfl, (Below.refl _ _).alloc (Nat.le_refl _) _⟩
   | succ g =>
    have hi : i < s.size := by omega
    obtain ⟨x, hx⟩ : ∃ x : UInt8, s[i]'hi = x := ⟨_, rfl⟩
    have hxl : s.data.toList[i]? = some x := by rw [← hx]; exact Lib.data_getElem? s i hi
    have hx128 : x.toNat < 128 := HA.out i x hxl
    have hnx := fun ty => run_next_ascii (P := Tryz.prog) w s i ty hi (by rw [hx]; exact hx128)
    rw [hx] at hnx
    have hne : ((x.toNat : Int) == 65533) = false := by simp; omega
    clear hxl hx
    go_wp2
    go_roundg g
    case measure => omega
    case rel => exact ⟨i + 1, by omega, rfl⟩
 ·have hne : (r == 65533) = false := by simpa using h65
  obtain ⟨l, hl, hl2, hl4, hlb⟩ := enc_high r h0
  obtain ⟨m, hm⟩ : ∃ m, l.length = m + 1 := ⟨l.length - 1, by omega⟩
  have hEs : (Utf8.encode r).size = l.length := by rw [hl]; rfl
  have hm1 : ((Utf8.encode r).size : Int) - 1 = (m : Int) := by omega
  have hmN : m + 1 = (Utf8.encode r).size := by omega
  have hm2 : (m : Int) < ((Utf8.encode r).size : Int) := by omega
  have hm0 : (0 : Int) ≤ (m : Int) := by omega
  have hm3 : (m : Int) ≤ 3 := by omega
  obtain ⟨y, hy⟩ : ∃ y, l[m]? = some y := ⟨_, List.getElem?_eq_getElem (by omega)⟩
  have hy128 := hlb y (List.mem_of_getElem? hy)
  have hEy : (Utf8.encode r).data.toList[m]? = some y := by rw [hl]; exact hy
  clear hl hlb hEs hm hy hl2 hl4
  have VR := Lib.hid (fun wx => vrune_any r wx h01)
  clear h65
  generalize decide (r < 55296 ∨ (57343 < r ∧ r ≤ 1114111)) = b at VR
  cases b with
  | false =>
   go_enter Tryz.func148, Tryz.ntmps148
   go_wp2_with (go_at_call 161; (with_reducible refine (VR.out _).mono ?_); rintro e w1 ⟨rfl, rfl⟩)
   go_ret
   exact ⟨rfl, Below.refl _ _⟩
  | true =>
   go_enter Tryz.func148, Tryz.ntmps148
   go_upto_region 5 with (go_at_call 161; (with_reducible refine (VR.out _).mono ?_); rintro e w1 ⟨rfl, rfl⟩)
   go_step3
   go_upto_region 5 with fail
   go_loopw [9, 10] (fun a b wr => a = .int .i64 (m : Int) ∧ b = .int .i64 0 ∧ wr = w) (fun _ _ _ => 0)
   case atStart => exact ⟨rfl, rfl, rfl⟩
   case round =>
    obtain ⟨rfl, rfl, rfl⟩ := hrel
    by_cases hlt : m < s.size
    ·have hlt' : (m : Int) < (s.size : Int) := by omega
     obtain ⟨x, hx⟩ : ∃ x, s.data.toList[m]? = some x := ⟨_, List.getElem?_eq_getElem (by rw [Array.length_toList]; exact hlt)⟩
     have hx128 := HA.out _ _ hx
     have hxy : ((x.toNat : Int) == (y.toNat : Int)) = false := by simp; omega
     obtain ⟨q, hq⟩ : ∃ q, q = m + 1 := ⟨_, rfl⟩
     have IB : Hid (∀ (c : UInt8) (wx : World), 128 ≤ c.toNat → Calls Tryz.prog 160 #[.string (s.extract q s.size), .int .u8 (c.toNat : Int)] wx fun e w' => e = .returned (.int .i64 (-1)) ∧ wx = w') := by
      intro c wx hc
      have hno : ∀ b, b ∈ (s.extract q s.size).data.toList → b ≠ c := by
       intro b hb e
       subst e
       rw [ByteArray.data_extract, Array.toList_extract] at hb
       have hb2 := List.mem_of_mem_drop (List.mem_of_mem_take (by simpa [List.extract] using hb))
       obtain ⟨j, hj⟩ := List.getElem?_of_mem hb2
       have := HA.out j _ hj
       omega
      have h := idxb_any (s.extract q s.size) (c.toNat : Int) wx
      rwa [show ((c.toNat : Int)).toNat.toUInt8 = c by simp, indexByte_none hno] at h
     have HY : Hid (∀ h : m < (Utf8.encode r).size, 128 ≤ ((Utf8.encode r)[m]'h).toNat) := by
      intro h
      have e := Lib.data_getElem? (Utf8.encode r) m h
      rw [hEy] at e
      cases e
      exact hy128
     have hnq : ((s[m]'hlt).toNat : Int) ≠ (((Utf8.encode r)[m]'(by omega)).toNat : Int) := by
      have e := Lib.data_getElem? s m hlt
      rw [hx] at e
      have e := Option.some.inj e
      have := HY.out (by omega)
      rw [← e]
      omega
     have hw : IntKind.i64.wrap ((m : Int) + 1) = (q : Int) := by rw [IntWalk.i64_in _ (by omega)]; omega
     have hs1 : (q : Int) ≤ (s.size : Int) := by omega
     have hs0 : (0 : Int) ≤ (q : Int) := by omega
     clear hmN hq
     go_wp2
     go_step3
     go_wp2
     go_quiet (fail)
     go_wp2
     go_quiet (first | (go_at_call 160; (with_reducible refine (IB.out _ _ (HY.out _)).mono ?_); exact fun e u h => ⟨h.1, _, h.2.symm⟩))
     go_wp2
     rw [Exit.noGoto_ret]
     go_wp2
     rw [Exit.noGoto_ret]
     go_wp2
     go_ret
     exact ⟨rfl, below_drewN (Below.refl _ _) _⟩
    ·have hlt' : ¬ (m : Int) < (s.size : Int) := by omega
     go_wp2
     go_ret
     exact ⟨rfl, Below.refl _ _⟩
set_option maxHeartbeats 8000000 in
set_option maxRecDepth 1000000 in
theorem idxany_short (s chars : ByteArray) (w : World) (h2 : 2 ≤ chars.size) (hc8 : chars.size ≤ 100) (h8 : s.size ≤ 8) (hA : ∀ (j : Nat) b, chars.data.toList[j]? = some b → b.toNat < 128) : Calls Tryz.prog 137 #[.string s, .string chars] w fun e w' => e = .returned (.int .i64 (Lib.indexAny s.data.toList chars.data.toList)) ∧ Below w.heap.size w w' := by
 have HA := Lib.hid hA
 clear hA
 have hemp : chars.toList.isEmpty = false := by
  rw [Lib.toList_data]
  cases h : chars.data.toList with
  | nil => have := Lib.size_eq chars; rw [h, List.length_nil] at this; omega
  | cons _ _ => rfl
 have hn1 : ((chars.size : Int) == 1) = false := beq_eq_false_iff_ne.2 (by omega)
 have h8z : decide ((8 : Int) < (s.size : Int)) = false := decide_eq_false (by omega)
 go_enter Tryz.func137, Tryz.ntmps137
 go_upto_region 18 with (go_at_call 149; (with_reducible refine (sascii_any _ _).mono ?_); rintro e w' ⟨rfl, rfl⟩; rw [h8z])
 have hb0 : Below w.heap.size w (w.iter s 0) := (Below.refl _ _).alloc (Nat.le_refl _) _
 have hit0 : (w.iter s 0).heap[w.heap.size]? = some (.stringIter s 0) := World.iter_heap w s 0
 generalize w.iter s 0 = w0 at hb0 hit0 ⊢
 go_loopw [9, 10] (fun _ _ wx => ∃ i : Nat, i ≤ s.size ∧ wx.heap[w.heap.size]? = some (.stringIter s i) ∧ Below w.heap.size w wx ∧ Lib.NoAny s.data.toList chars.data.toList i) (fun _ _ wx => s.size - wx.iterPos w.heap.size)
 case atStart => exact ⟨0, Nat.zero_le _, hit0, hb0, Lib.NoAny.zero _ _⟩
 case round =>
  clear hb0 hit0
  obtain ⟨i, his, hit, hbw, hno⟩ := hrel
  have HN := Lib.hid hno
  clear hno
  have hpos0 := iterPos_of hit
  by_cases hi : i < s.size
  ·obtain ⟨x, hx⟩ : ∃ x : UInt8, s[i]'hi = x := ⟨_, rfl⟩
   have hxl : s.data.toList[i]? = some x := by rw [← hx]; exact Lib.data_getElem? s i hi
   have hnx : ∀ ty, (Instr.next (.pointer (some ⟨w.heap.size, 0, none⟩)) true ty).run Tryz.prog wr = _ := fun ty => Lib.run_next_any_at wr w.heap.size s i ty hit hi
   have hit2 := Lib.iterAt_heap wr w.heap.size s i (i + (Utf8.decode s i).2) hit
   have hbw2 := Lib.below_iterAt hbw (k := w.heap.size) (Nat.le_refl _) s (i + (Utf8.decode s i).2)
   obtain ⟨W1, hW1⟩ : ∃ W1, W1 = wr.iterAt w.heap.size s (i + (Utf8.decode s i).2) := ⟨_, rfl⟩
   rw [← hW1] at hnx hit2 hbw2
   have Hx := Lib.hid hxl
   clear hW1 hit hbw hx
   by_cases hx128 : x.toNat < 128
   ·have hd : Utf8.decode s i = (x.toNat, 1) := by
     rw [Lib.decode_N s i, show s.data.toList.getD i 0 = x by rw [List.getD_eq_getElem?_getD, hxl]; rfl]
     exact Lib.decodeN_ascii _ _ _ _ _ hx128
    rw [hd] at hnx hit2
    clear hd hxl
    have hcon := Lib.contains_iff_indexByte chars.data.toList x
    have R := Lib.hid (fun wx => idxr_low chars (x.toNat : Int) wx (by omega) (by omega))
    rw [show ((x.toNat : Int)).toNat.toUInt8 = x by simp] at R
    cases hin : chars.data.toList.contains x
    ·rw [hin] at hcon
     have hlt : ¬ ((0 : Int) ≤ Lib.indexByte chars.data.toList x) := of_decide_eq_false hcon.symm
     clear hcon
     go_wp2_with (go_at_call 148; (with_reducible refine (R.out _).mono ?_); rintro e w' ⟨rfl, rfl⟩)
     go_roundw
     case rel => exact ⟨i + 1, by omega, hit2, hbw2, HN.out.succ Hx.out hin⟩
     case measure => rw [iterPos_of hit2, hpos0]; show s.size - (i + 1) < _; omega
    ·rw [hin] at hcon
     have hge : (0 : Int) ≤ Lib.indexByte chars.data.toList x := of_decide_eq_true hcon.symm
     clear hcon
     go_wp2_with (go_at_call 148; (with_reducible refine (R.out _).mono ?_); rintro e w' ⟨rfl, rfl⟩)
     go_ret
     exact ⟨by rw [Lib.indexAny_hit HN.out Hx.out hin]; rfl, hbw2⟩
   ·obtain ⟨g1, g2, g3⟩ := dec_high s i x hxl (by omega)
    have g4 := Lib.width_pos s i
    have R := Lib.hid (fun wx => idxr_high chars ((Utf8.decode s i).1 : Int) wx (by omega) hc8 HA.out)
    have G3 := Lib.hid g3
    have hiW := lt_of_block hit2
    clear hxl g3
    generalize Utf8.decode s i = D at hnx hit2 g1 g2 g4 R G3
    obtain ⟨D1, D2⟩ := D
    simp only at hnx hit2 g1 g2 g4 R G3
    go_wp2_with (go_at_call 148; (with_reducible refine (R.out _).mono ?_); rintro e w2 ⟨rfl, hb2⟩)
    go_roundw
    case rel =>
     refine ⟨i + D2, by omega, (hb2.block _ hiW).trans hit2, hbw2.trans (hb2.mono hbw2.size), ?_⟩
     intro j b hj hb
     by_cases hji : j < i
     ·exact HN.out j b hji hb
     ·have hb128 := G3.out j b (by omega) hj hb
      have : ¬ b ∈ chars.data.toList := by
       intro hm
       obtain ⟨q, hq⟩ := List.getElem?_of_mem hm
       have := HA.out q b hq
       omega
      simpa using this
    case measure => rw [iterPos_of ((hb2.block _ hiW).trans hit2), hpos0]; omega
  ·obtain rfl : i = s.size := by omega
   have hnx : ∀ ty, (Instr.next (.pointer (some ⟨w.heap.size, 0, none⟩)) true ty).run Tryz.prog wr = _ := fun ty => Lib.run_next_end_at wr w.heap.size s s.size ty hit hi
   go_wp2
   go_ret
   exact ⟨by rw [Lib.indexAny_none (by rw [← Lib.size_eq]; exact HN.out)]; rfl, hbw⟩
/-- strings.IndexAny, s of any bytes, chars of at least two ASCII bytes. -/
theorem idxany_any (s chars : ByteArray) (w : World) (h2 : 2 ≤ chars.size) (hc8 : chars.size ≤ 100) (hs : s.size ≤ 1000000) (hA : ∀ (j : Nat) b, chars.data.toList[j]? = some b → b.toNat < 128) : Calls Tryz.prog 137 #[.string s, .string chars] w fun e w' => e = .returned (.int .i64 (Lib.indexAny s.data.toList chars.data.toList)) ∧ Below w.heap.size w w' := by
 by_cases h8 : s.size ≤ 8
 ·exact idxany_short s chars w h2 hc8 h8 hA
 ·refine (Any.strings_IndexAny_long jlays153 (fun w => by kernel_rfl) (by kernel_rfl) s chars w h2 (by omega) (by omega) (by omega) hA).mono fun e w' h => ⟨h.1, ?_⟩
  rw [h.2]
  exact ((Below.refl _ _).alloc (Nat.le_refl _) _).alloc (by simp) _
end Go.Proofs.YtdppdonaojdceaaGreatDoor
