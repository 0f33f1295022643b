/- The document's Group: a group with which a text begins. -/
import Derived.Test.YtdmgmfdmakheiaaDoorSread
import Derived.Test.YtdmgmfdmakheiaaDoorSref
import Derived.Deep.DeepCutAuto
import Derived.Deep.AppendLies
import Derived.BigQuiet
namespace Go.Proofs.YtdmgmfdmakheiaaDoor
open Go.ChangeShapes Go.WideShapes Go.ChangeAt Go.RowKit
set_option linter.unusedVariables false
set_option linter.unusedSimpArgs false

/-- What Group leaves. -/
def GrpPost (t : ByteArray) (w : World) (e : Ending) (w' : World) : Prop :=
  Below w.heap.size w w' ∧ ∃ kk ai li ci, e = .returned (.tuple #[.agg #[.int .i64 kk, .slice ai li ci], .string (grpR t), .int .i64 (grpE t)]) ∧ (grpE t = 0 → kk = markK t ∧ PrimsAt w'.heap.size w' (.slice ai li ci) (grpItems t) ∧ ∀ b, (Value.slice ai li ci).ownBlock = some b → w.heap.size ≤ b)
theorem grp_unmarked {t : ByteArray} (h : markOk t = false) : grpR t = ⟨#[]⟩ ∧ grpE t = 4 := by
  have e : grpE t = 4 := by unfold grpE; rw [if_pos h]
  exact ⟨by unfold grpR; rw [e, if_pos (by decide)], e⟩

theorem at_get (s : ByteArray) (i : Nat) (h : i < s.size) : (s[i]'h).toNat = (s.data.toList.getD i 0).toNat := by
  have h' : i < s.data.toList.length := by rw [Array.length_toList]; exact h
  rw [List.getD, List.getElem?_eq_getElem h']
  rfl
theorem two_groups (w : World) : ((w.alloc (.cells #[.int .i64 0, .slice none 0 0] 28)).alloc (.cells #[.int .i64 0, .slice none 0 0] 28)).heap[w.heap.size]? = some (.cells #[.int .i64 0, .slice none 0 0] 28 (0, 0)) ∧
    ((w.alloc (.cells #[.int .i64 0, .slice none 0 0] 28)).alloc (.cells #[.int .i64 0, .slice none 0 0] 28)).heap[w.heap.size + 1]? = some (.cells #[.int .i64 0, .slice none 0 0] 28 (0, 0)) ∧
    Below w.heap.size w ((w.alloc (.cells #[.int .i64 0, .slice none 0 0] 28)).alloc (.cells #[.int .i64 0, .slice none 0 0] 28)) ∧
    ((w.alloc (.cells #[.int .i64 0, .slice none 0 0] 28)).alloc (.cells #[.int .i64 0, .slice none 0 0] 28)).heap.size = w.heap.size + 2 := by
  have e1 : (w.alloc (.cells #[.int .i64 0, .slice none 0 0] 28)).heap.size = w.heap.size + 1 := by simp
  refine ⟨?_, ?_, ?_, by simp⟩
  · exact keepB ((Below.refl _ _).alloc (o := .cells #[.int .i64 0, .slice none 0 0] 28) (Nat.le_refl _)) (by rw [e1]; omega) (heap_alloc_new w _)
  · have := heap_alloc_new (w.alloc (.cells #[.int .i64 0, .slice none 0 0] 28)) (.cells #[.int .i64 0, .slice none 0 0] 28)
    rw [e1] at this
    exact this
  · exact ((Below.refl w.heap.size w).alloc (Nat.le_refl _) _).alloc (by rw [e1]; omega) _

set_option maxHeartbeats 4000000 in
set_option maxRecDepth 100000 in
theorem rgrp_short (t : ByteArray) (w : World) (h4 : t.size < 4 ∨ t.data.toList.getD 0 0 ≠ 45) : Calls Tryd.prog 43 #[.string t] w (GrpPost t w) := by
  obtain ⟨r1, r2⟩ := grp_unmarked (t := t) (by unfold markOk; rcases h4 with h | h; · rw [decide_eq_false (by omega : ¬ 4 ≤ t.size)]; rfl
                                               · rw [decide_eq_false h, Bool.and_false]; rfl)
  have HR := Lib.hid (And.intro r1 r2)
  obtain ⟨w2, hw2⟩ : ∃ w2, w2 = (w.alloc (.cells #[.int .i64 0, .slice none 0 0] 28)).alloc (.cells #[.int .i64 0, .slice none 0 0] 28) := ⟨_, rfl⟩
  obtain ⟨hB0, hB1, hbl, hsz⟩ := two_groups w
  rw [← hw2] at hB0 hB1 hbl hsz
  have hc0 := two_of hB0
  by_cases hs : t.size < 4
  · have hs' : (t.size : Int) < 4 := by omega
    clear h4 r1 r2
    go_enter Tryd.func43, Tryd.ntmps43
    go_wp2
    rw [← hw2]
    refine bodyPost_ret (v := .tuple #[.agg #[.int .i64 0, .slice none 0 0], .string ⟨#[]⟩, .int .i64 4]) ?_ ?_ ?_
    rotate_left
    · rfl
    · exact ⟨hbl, 0, _, _, _, by rw [HR.out.1, HR.out.2], fun h => by rw [HR.out.2] at h; cases h⟩
    · have q0 := hc0.1
      have q1 := hc0.2
      simp [results, Tryd.results43, go_sem, q0, q1]
  · have hs' : ¬ (t.size : Int) < 4 := by omega
    have hne : t.data.toList.getD 0 0 ≠ 45 := by
      rcases h4 with h | h
      · exact absurd h hs
      · exact h
    obtain ⟨x, hx⟩ : ∃ x : Nat, x = (t.data.toList.getD 0 0).toNat := ⟨_, rfl⟩
    have hg : ∀ h, (t[0]'h).toNat = x := by intro h; rw [hx, at_get t 0 h]
    have hx45 : ((x : Int) != 45) = true := by
      have : x ≠ 45 := fun e => hne (by apply UInt8.toNat_inj.1; rw [← hx, e]; rfl)
      simp; omega
    have hs2 : (0 : Int) < (t.size : Int) := by omega
    clear h4 r1 r2 hne hx
    go_enter Tryd.func43, Tryd.ntmps43
    go_wp2
    rw [← hw2]
    refine bodyPost_ret (v := .tuple #[.agg #[.int .i64 0, .slice none 0 0], .string ⟨#[]⟩, .int .i64 4]) ?_ ?_ ?_
    rotate_left
    · rfl
    · exact ⟨hbl, 0, _, _, _, by rw [HR.out.1, HR.out.2], fun h => by rw [HR.out.2] at h; cases h⟩
    · have q0 := hc0.1
      have q1 := hc0.2
      simp [results, Tryd.results43, go_sem, q0, q1]
/-- The kind found among the first letters. -/
def kindTo (b : UInt8) (n : Nat) : Int := if kindB b < n then kindB b else 0
theorem kind_lt (b : UInt8) : 0 ≤ kindB b ∧ kindB b ≤ 4 := by
  unfold kindB
  split
  · omega
  · split
    · omega
    · split
      · omega
      · split <;> omega
theorem letter_at (n : Nat) (h1 : 1 ≤ n) (h4 : n ≤ 4) (b : UInt8) : ((({ data := #[63, 65, 66, 67, 71] } : ByteArray).data.toList.getD n 0) = b) ↔ kindB b = (n : Int) := by
  obtain rfl | rfl | rfl | rfl : n = 1 ∨ n = 2 ∨ n = 3 ∨ n = 4 := by omega
  all_goals
    show ((_ : UInt8) = b) ↔ _
    unfold kindB
    constructor
    · intro e
      rw [← e]
      decide
    · intro e
      (repeat' split at e) <;> first | (exfalso; omega) | (rename_i h; exact h.symm)
set_option maxHeartbeats 4000000 in
set_option maxRecDepth 100000 in
theorem rgrp_bad (t : ByteArray) (w : World) (h4 : 4 ≤ t.size) (h0 : t.data.toList.getD 0 0 = 45) (hmo : markOk t = false) : Calls Tryd.prog 43 #[.string t] w (GrpPost t w) := by
  obtain ⟨w2, hw2⟩ : ∃ w2, w2 = (w.alloc (.cells #[.int .i64 0, .slice none 0 0] 28)).alloc (.cells #[.int .i64 0, .slice none 0 0] 28) := ⟨_, rfl⟩
  obtain ⟨hB0, hB1, hbl, hsz⟩ := two_groups w
  rw [← hw2] at hB0 hB1 hbl hsz
  have hs' : ¬ (t.size : Int) < 4 := by omega
  have hg : ∀ h, (t[0]'h).toNat = 45 := by intro h; rw [at_get t 0 h, h0]; rfl
  have hs2 : (0 : Int) < (t.size : Int) := by omega
  have hs3 : (1 : Int) < (t.size : Int) := by omega
  obtain ⟨b1, hb1⟩ : ∃ b, b = t.data.toList.getD 1 0 := ⟨_, rfl⟩
  obtain ⟨x, hx⟩ : ∃ x : Nat, x = b1.toNat := ⟨_, rfl⟩
  have hg1 : ∀ h, (t[1]'h).toNat = x := by intro h; rw [hx, hb1, at_get t 1 h]
  have HB1 := Lib.hid hb1
  have HX := Lib.hid hx
  have HMO := Lib.hid hmo
  have H0 := Lib.hid h0
  clear h0 hb1 hx hmo
  go_enter Tryd.func43, Tryd.ntmps43
  go_wp2
  rw [← hw2]
  obtain ⟨g, hgw⟩ : ∃ g, g = w.heap.size + 1 := ⟨_, rfl⟩
  rw [← hgw] at hB1
  simp only [← hgw]
  have HGW := Lib.hid hgw
  have hgn : w.heap.size < g := by omega
  clear hgw hw2
  go_loopw [6] (fun i wr => ∃ n : Nat, 1 ≤ n ∧ n ≤ 5 ∧ i = .int .i64 n ∧ Below w.heap.size w wr ∧ wr.heap.size = w.heap.size + 2 ∧ wr.heap[w.heap.size]? = some (.cells #[.int .i64 0, .slice none 0 0] 28 (0, 0)) ∧ wr.heap[g]? = some (.cells #[.int .i64 (kindTo b1 n), .slice none 0 0] 28 (0, 0))) (fun i _ => 5 - (intOf i).toNat)
  case atStart =>
    refine ⟨1, by omega, by omega, rfl, hbl, hsz, hB0, ?_⟩
    have : kindTo b1 1 = 0 := by have := kind_lt b1; unfold kindTo; split <;> omega
    rw [this]
    exact hB1
  case round =>
    clear hB0 hB1 hbl hsz
    obtain ⟨n, n1, n5, rfl, hbl, hsz, hB0, hB1⟩ := hrel
    by_cases hn : n ≤ 4
    · obtain ⟨y, hy⟩ : ∃ y : Nat, y = (({ data := #[63, 65, 66, 67, 71] } : ByteArray).data.toList.getD n 0).toNat := ⟨_, rfl⟩
      have hgl : ∀ h, ((({ data := #[63, 65, 66, 67, 71] } : ByteArray))[n]'h).toNat = y := by intro h; rw [hy, at_get _ n h]
      have hyx : y = x ↔ kindB b1 = (n : Int) := by
        rw [← letter_at n n1 hn b1, hy, HX.out]
        exact UInt8.toNat_inj
      have HYX := Lib.hid hyx
      clear hyx hy
      have i0 : (0 : Int) ≤ (n : Int) := by omega
      have i5 : (n : Int) < 5 := by omega
      have i4 : decide ((n : Int) ≤ 4) = true := decide_eq_true (by omega)
      by_cases hxy : y = x
      · have hk := HYX.out.1 hxy
        have e1 : kindTo b1 (n + 1) = (n : Int) := by unfold kindTo; rw [if_pos (by omega), hk]
        have HE1 := Lib.hid e1
        have hgs : w.heap.size ≤ g := by omega
        have hxb : ((y : Int) == (x : Int)) = true := by rw [hxy]; simp
        clear e1 hk hxy
        go_wp2
        go_quiet (fail)
        have hB1q : (wr.drewN nq).heap[g]? = _ := hB1
        have hB0q : (wr.drewN nq).heap[w.heap.size]? = _ := hB0
        have hszq : (wr.drewN nq).heap.size = _ := hsz
        have hblq := belowQ hbl nq
        clear hB1 hB0 hsz hbl
        obtain ⟨wq, hwq⟩ : ∃ wq, wq = wr.drewN nq := ⟨_, rfl⟩
        rw [← hwq] at hB1q hB0q hszq hblq
        rw [← hwq]
        clear hwq
        obtain ⟨hf1, hf2⟩ := free_two hB1q
        obtain ⟨hc1, hc2⟩ := two_of hB1q
        have hB2 := two_set0 hB1q (.int .i64 (n : Int))
        have hB3 : (wq.setCell ⟨g, 0, none⟩ (.int .i64 (n : Int))).heap[w.heap.size]? = some (.cells #[.int .i64 0, .slice none 0 0] 28 (0, 0)) := (heap_setCell_other wq ⟨g, 0, none⟩ w.heap.size (.int .i64 (n : Int)) (by dsimp only; omega)).trans hB0q
        go_wp2
        go_roundw
        case rel =>
          refine ⟨n + 1, by omega, by omega, by go_num, hblq.setCell hgs _, ?_, ?_, ?_⟩
          · simpa using hszq
          · exact hB3
          · rw [HE1.out]; exact hB2
        case measure => simp [intOf]; omega
      · have hk : ¬ kindB b1 = (n : Int) := fun e => hxy (HYX.out.2 e)
        have e1 : kindTo b1 (n + 1) = kindTo b1 n := by
          unfold kindTo
          by_cases h : kindB b1 < (n : Int)
          · rw [if_pos h, if_pos (by omega)]
          · rw [if_neg h, if_neg (by omega)]
        have HE1 := Lib.hid e1
        have hxb : ((y : Int) == (x : Int)) = false := by simp; omega
        clear e1 hk hxy
        go_wp2
        go_quiet (fail)
        go_wp2
        go_roundw
        case rel => exact ⟨n + 1, by omega, by omega, by go_num, belowQ hbl nq, hsz, hB0, by rw [HE1.out]; exact hB1⟩
        case measure => simp [intOf]; omega
    · obtain rfl : n = 5 := by omega
      have e5 : kindTo b1 5 = kindB b1 := by have := kind_lt b1; unfold kindTo; rw [if_pos (by omega)]
      rw [e5] at hB1
      obtain ⟨k, hk⟩ : ∃ k, k = kindB b1 := ⟨_, rfl⟩
      rw [← hk] at hB1
      have HK := Lib.hid hk
      clear e5 hk
      have i5 : decide ((5 : Int) ≤ 4) = false := by decide
      have hBn := hB1
      have PA := Lib.hid (fun wx : World => rparse_full (t.extract 2 4) wx (by rw [ext_size _ _ _ (by omega) (by omega)]; unfold maxLen; omega))
      have hx2 : ((2 : Int)) ≤ (t.size : Int) := by omega
      have hx4 : ((4 : Int)) ≤ (t.size : Int) := by omega
      obtain ⟨pn, hpn⟩ : ∃ v, v = parN (t.extract 2 4).data.toList := ⟨_, rfl⟩
      obtain ⟨pe, hpe⟩ : ∃ v, v = parE (t.extract 2 4).data.toList := ⟨_, rfl⟩
      rw [← hpn, ← hpe] at PA
      have HPN := Lib.hid hpn
      have HPE := Lib.hid hpe
      clear hpn hpe
      obtain ⟨c1, c2⟩ := two_of hB1
      obtain ⟨f1, f2⟩ := free_two hB1
      obtain ⟨d1, d2⟩ := two_of hB0
      obtain ⟨y1, y2⟩ := free_two hB0
      have hbad : k = 0 ∨ pe ≠ 0 := by
        by_cases hk : k = 0
        · exact .inl hk
        · right
          intro hp
          have h := HMO.out
          unfold markOk at h
          rw [decide_eq_true h4, decide_eq_true H0.out, decide_eq_true (show kindB (t.data.toList.getD 1 0) ≠ 0 by rw [← HB1.out, ← HK.out]; exact hk), decide_eq_true (show parE (t.extract 2 4).data.toList = 0 by rw [← HPE.out]; exact hp)] at h
          cases h
      · obtain ⟨r1, r2⟩ := grp_unmarked HMO.out
        have HR := Lib.hid (And.intro r1 r2)
        clear r1 r2
        have hg3 : GrpPost t w (.returned (.tuple #[.agg #[.int .i64 k, .slice none 0 0], .string ⟨#[]⟩, .int .i64 4])) ((wr.setCell ⟨w.heap.size, 0, none⟩ (.int .i64 k)).setCell ⟨w.heap.size, 1, none⟩ (.slice none 0 0)) :=
          ⟨(hbl.setCell (Nat.le_refl _) _).setCell (Nat.le_refl _) _, k, _, _, _, by rw [HR.out.1, HR.out.2], fun h => by rw [HR.out.2] at h; cases h⟩
        have HG3 := Lib.hid hg3
        clear hg3
        by_cases hk : k = 0
        · subst hk
          go_wp2_with (go_at_call 64; (with_reducible refine (PA.out _).mono ?_); rintro e wz ⟨rfl, rfl⟩)
          refine bodyPost_ret ?_ ?_ HG3.out
          · have q := two_put hB0 (.int .i64 0) (.slice none 0 0)
            have q0 := q.1
            have q1 := q.2
            simp [results, Tryd.results43, go_sem, q0, q1]
          · rfl
        · have hkb : (k == 0) = false := by simp [hk]
          have hpb : (pe != 0) = true := by rcases hbad with h | h; exact absurd h hk; simpa using h
          go_wp2_with (go_at_call 64; (with_reducible refine (PA.out _).mono ?_); rintro e wz ⟨rfl, rfl⟩)
          refine bodyPost_ret ?_ ?_ HG3.out
          · have q := two_put hB0 (.int .i64 k) (.slice none 0 0)
            have q0 := q.1
            have q1 := q.2
            simp [results, Tryd.results43, go_sem, q0, q1]
          · rfl

/-- Where the mark may not be read. -/
theorem rgrp_unmarked (t : ByteArray) (w : World) (hmo : markOk t = false) : Calls Tryd.prog 43 #[.string t] w (GrpPost t w) := by
  by_cases h : t.size < 4 ∨ t.data.toList.getD 0 0 ≠ 45
  · exact rgrp_short t w h
  · exact rgrp_bad t w (by omega) (by simpa using fun e => h (.inr e)) hmo

end Go.Proofs.YtdmgmfdmakheiaaDoor
