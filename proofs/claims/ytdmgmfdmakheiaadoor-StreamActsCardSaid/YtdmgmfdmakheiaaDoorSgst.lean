/- The document's Group: a group with which a text begins. Then: What the document's Group holds while it reads: its two blocks, and the primitives that it has gathered. -/
import Derived.Test.YtdmgmfdmakheiaaDoorSread
import Derived.Test.YtdmgmfdmakheiaaDoorSref
import Derived.Deep.DeepCutAuto
import Derived.Deep.AppendLies
import Derived.BigQuiet
namespace Go.Proofs.YtdmgmfdmakheiaaDoor
open Go.ChangeShapes Go.WideShapes Go.ChangeAt Go.RowKit
set_option linter.unusedVariables false
set_option linter.unusedSimpArgs false

/-- What Group leaves. -/
def GrpPost (t : ByteArray) (w : World) (e : Ending) (w' : World) : Prop :=
  Below w.heap.size w w' ∧ ∃ kk ai li ci, e = .returned (.tuple #[.agg #[.int .i64 kk, .slice ai li ci], .string (grpR t), .int .i64 (grpE t)]) ∧ (grpE t = 0 → kk = markK t ∧ PrimsAt w'.heap.size w' (.slice ai li ci) (grpItems t) ∧ ∀ b, (Value.slice ai li ci).ownBlock = some b → w.heap.size ≤ b)
theorem grp_unmarked {t : ByteArray} (h : markOk t = false) : grpR t = ⟨#[]⟩ ∧ grpE t = 4 := by
  have e : grpE t = 4 := by unfold grpE; rw [if_pos h]
  exact ⟨by unfold grpR; rw [e, if_pos (by decide)], e⟩

theorem at_get (s : ByteArray) (i : Nat) (h : i < s.size) : (s[i]'h).toNat = (s.data.toList.getD i 0).toNat := by
  have h' : i < s.data.toList.length := by rw [Array.length_toList]; exact h
  rw [List.getD, List.getElem?_eq_getElem h']
  rfl
theorem two_groups (w : World) : ((w.alloc (.cells #[.int .i64 0, .slice none 0 0] 28)).alloc (.cells #[.int .i64 0, .slice none 0 0] 28)).heap[w.heap.size]? = some (.cells #[.int .i64 0, .slice none 0 0] 28 (0, 0)) ∧
    ((w.alloc (.cells #[.int .i64 0, .slice none 0 0] 28)).alloc (.cells #[.int .i64 0, .slice none 0 0] 28)).heap[w.heap.size + 1]? = some (.cells #[.int .i64 0, .slice none 0 0] 28 (0, 0)) ∧
    Below w.heap.size w ((w.alloc (.cells #[.int .i64 0, .slice none 0 0] 28)).alloc (.cells #[.int .i64 0, .slice none 0 0] 28)) ∧
    ((w.alloc (.cells #[.int .i64 0, .slice none 0 0] 28)).alloc (.cells #[.int .i64 0, .slice none 0 0] 28)).heap.size = w.heap.size + 2 := by
  have e1 : (w.alloc (.cells #[.int .i64 0, .slice none 0 0] 28)).heap.size = w.heap.size + 1 := by simp
  refine ⟨?_, ?_, ?_, by simp⟩
  · exact keepB ((Below.refl _ _).alloc (o := .cells #[.int .i64 0, .slice none 0 0] 28) (Nat.le_refl _)) (by rw [e1]; omega) (heap_alloc_new w _)
  · have := heap_alloc_new (w.alloc (.cells #[.int .i64 0, .slice none 0 0] 28)) (.cells #[.int .i64 0, .slice none 0 0] 28)
    rw [e1] at this
    exact this
  · exact ((Below.refl w.heap.size w).alloc (Nat.le_refl _) _).alloc (by rw [e1]; omega) _

set_option maxHeartbeats 4000000 in
set_option maxRecDepth 100000 in
theorem rgrp_short (t : ByteArray) (w : World) (h4 : t.size < 4 ∨ t.data.toList.getD 0 0 ≠ 45) : Calls Tryd.prog 43 #[.string t] w (GrpPost t w) := by
  obtain ⟨r1, r2⟩ := grp_unmarked (t := t) (by unfold markOk; rcases h4 with h | h; · rw [decide_eq_false (by omega : ¬ 4 ≤ t.size)]; rfl
                                               · rw [decide_eq_false h, Bool.and_false]; rfl)
  have HR := Lib.hid (And.intro r1 r2)
  obtain ⟨w2, hw2⟩ : ∃ w2, w2 = (w.alloc (.cells #[.int .i64 0, .slice none 0 0] 28)).alloc (.cells #[.int .i64 0, .slice none 0 0] 28) := ⟨_, rfl⟩
  obtain ⟨hB0, hB1, hbl, hsz⟩ := two_groups w
  rw [← hw2] at hB0 hB1 hbl hsz
  have hc0 := two_of hB0
  by_cases hs : t.size < 4
  · have hs' : (t.size : Int) < 4 := by omega
    clear h4 r1 r2
    go_enter Tryd.func43, Tryd.ntmps43
    go_wp2
    rw [← hw2]
    refine bodyPost_ret (v := .tuple #[.agg #[.int .i64 0, .slice none 0 0], .string ⟨#[]⟩, .int .i64 4]) ?_ ?_ ?_
    rotate_left
    · rfl
    · exact ⟨hbl, 0, _, _, _, by rw [HR.out.1, HR.out.2], fun h => by rw [HR.out.2] at h; cases h⟩
    · have q0 := hc0.1
      have q1 := hc0.2
      simp [results, Tryd.results43, go_sem, q0, q1]
  · have hs' : ¬ (t.size : Int) < 4 := by omega
    have hne : t.data.toList.getD 0 0 ≠ 45 := by
      rcases h4 with h | h
      · exact absurd h hs
      · exact h
    obtain ⟨x, hx⟩ : ∃ x : Nat, x = (t.data.toList.getD 0 0).toNat := ⟨_, rfl⟩
    have hg : ∀ h, (t[0]'h).toNat = x := by intro h; rw [hx, at_get t 0 h]
    have hx45 : ((x : Int) != 45) = true := by
      have : x ≠ 45 := fun e => hne (by apply UInt8.toNat_inj.1; rw [← hx, e]; rfl)
      simp; omega
    have hs2 : (0 : Int) < (t.size : Int) := by omega
    clear h4 r1 r2 hne hx
    go_enter Tryd.func43, Tryd.ntmps43
    go_wp2
    rw [← hw2]
    refine bodyPost_ret (v := .tuple #[.agg #[.int .i64 0, .slice none 0 0], .string ⟨#[]⟩, .int .i64 4]) ?_ ?_ ?_
    rotate_left
    · rfl
    · exact ⟨hbl, 0, _, _, _, by rw [HR.out.1, HR.out.2], fun h => by rw [HR.out.2] at h; cases h⟩
    · have q0 := hc0.1
      have q1 := hc0.2
      simp [results, Tryd.results43, go_sem, q0, q1]
/-- The kind found among the first letters. -/
def kindTo (b : UInt8) (n : Nat) : Int := if kindB b < n then kindB b else 0
theorem kind_lt (b : UInt8) : 0 ≤ kindB b ∧ kindB b ≤ 4 := by
  unfold kindB
  split
  · omega
  · split
    · omega
    · split
      · omega
      · split <;> omega
theorem letter_at (n : Nat) (h1 : 1 ≤ n) (h4 : n ≤ 4) (b : UInt8) : ((({ data := #[63, 65, 66, 67, 71] } : ByteArray).data.toList.getD n 0) = b) ↔ kindB b = (n : Int) := by
  obtain rfl | rfl | rfl | rfl : n = 1 ∨ n = 2 ∨ n = 3 ∨ n = 4 := by omega
  all_goals
    show ((_ : UInt8) = b) ↔ _
    unfold kindB
    constructor
    · intro e
      rw [← e]
      decide
    · intro e
      (repeat' split at e) <;> first | (exfalso; omega) | (rename_i h; exact h.symm)
set_option maxHeartbeats 4000000 in
set_option maxRecDepth 100000 in
theorem rgrp_bad (t : ByteArray) (w : World) (h4 : 4 ≤ t.size) (h0 : t.data.toList.getD 0 0 = 45) (hmo : markOk t = false) : Calls Tryd.prog 43 #[.string t] w (GrpPost t w) := by
  obtain ⟨w2, hw2⟩ : ∃ w2, w2 = (w.alloc (.cells #[.int .i64 0, .slice none 0 0] 28)).alloc (.cells #[.int .i64 0, .slice none 0 0] 28) := ⟨_, rfl⟩
  obtain ⟨hB0, hB1, hbl, hsz⟩ := two_groups w
  rw [← hw2] at hB0 hB1 hbl hsz
  have hs' : ¬ (t.size : Int) < 4 := by omega
  have hg : ∀ h, (t[0]'h).toNat = 45 := by intro h; rw [at_get t 0 h, h0]; rfl
  have hs2 : (0 : Int) < (t.size : Int) := by omega
  have hs3 : (1 : Int) < (t.size : Int) := by omega
  obtain ⟨b1, hb1⟩ : ∃ b, b = t.data.toList.getD 1 0 := ⟨_, rfl⟩
  obtain ⟨x, hx⟩ : ∃ x : Nat, x = b1.toNat := ⟨_, rfl⟩
  have hg1 : ∀ h, (t[1]'h).toNat = x := by intro h; rw [hx, hb1, at_get t 1 h]
  have HB1 := Lib.hid hb1
  have HX := Lib.hid hx
  have HMO := Lib.hid hmo
  have H0 := Lib.hid h0
  clear h0 hb1 hx hmo
  go_enter Tryd.func43, Tryd.ntmps43
  go_wp2
  rw [← hw2]
  obtain ⟨g, hgw⟩ : ∃ g, g = w.heap.size + 1 := ⟨_, rfl⟩
  rw [← hgw] at hB1
  simp only [← hgw]
  have HGW := Lib.hid hgw
  have hgn : w.heap.size < g := by omega
  clear hgw hw2
  go_loopw [6] (fun i wr => ∃ n : Nat, 1 ≤ n ∧ n ≤ 5 ∧ i = .int .i64 n ∧ Below w.heap.size w wr ∧ wr.heap.size = w.heap.size + 2 ∧ wr.heap[w.heap.size]? = some (.cells #[.int .i64 0, .slice none 0 0] 28 (0, 0)) ∧ wr.heap[g]? = some (.cells #[.int .i64 (kindTo b1 n), .slice none 0 0] 28 (0, 0))) (fun i _ => 5 - (intOf i).toNat)
  case atStart =>
    refine ⟨1, by omega, by omega, rfl, hbl, hsz, hB0, ?_⟩
    have : kindTo b1 1 = 0 := by have := kind_lt b1; unfold kindTo; split <;> omega
    rw [this]
    exact hB1
  case round =>
    clear hB0 hB1 hbl hsz
    obtain ⟨n, n1, n5, rfl, hbl, hsz, hB0, hB1⟩ := hrel
    by_cases hn : n ≤ 4
    · obtain ⟨y, hy⟩ : ∃ y : Nat, y = (({ data := #[63, 65, 66, 67, 71] } : ByteArray).data.toList.getD n 0).toNat := ⟨_, rfl⟩
      have hgl : ∀ h, ((({ data := #[63, 65, 66, 67, 71] } : ByteArray))[n]'h).toNat = y := by intro h; rw [hy, at_get _ n h]
      have hyx : y = x ↔ kindB b1 = (n : Int) := by
        rw [← letter_at n n1 hn b1, hy, HX.out]
        exact UInt8.toNat_inj
      have HYX := Lib.hid hyx
      clear hyx hy
      have i0 : (0 : Int) ≤ (n : Int) := by omega
      have i5 : (n : Int) < 5 := by omega
      have i4 : decide ((n : Int) ≤ 4) = true := decide_eq_true (by omega)
      by_cases hxy : y = x
      · have hk := HYX.out.1 hxy
        have e1 : kindTo b1 (n + 1) = (n : Int) := by unfold kindTo; rw [if_pos (by omega), hk]
        have HE1 := Lib.hid e1
        have hgs : w.heap.size ≤ g := by omega
        have hxb : ((y : Int) == (x : Int)) = true := by rw [hxy]; simp
        clear e1 hk hxy
        go_wp2
        go_quiet (fail)
        have hB1q : (wr.drewN nq).heap[g]? = _ := hB1
        have hB0q : (wr.drewN nq).heap[w.heap.size]? = _ := hB0
        have hszq : (wr.drewN nq).heap.size = _ := hsz
        have hblq := belowQ hbl nq
        clear hB1 hB0 hsz hbl
        obtain ⟨wq, hwq⟩ : ∃ wq, wq = wr.drewN nq := ⟨_, rfl⟩
        rw [← hwq] at hB1q hB0q hszq hblq
        rw [← hwq]
        clear hwq
        obtain ⟨hf1, hf2⟩ := free_two hB1q
        obtain ⟨hc1, hc2⟩ := two_of hB1q
        have hB2 := two_set0 hB1q (.int .i64 (n : Int))
        have hB3 : (wq.setCell ⟨g, 0, none⟩ (.int .i64 (n : Int))).heap[w.heap.size]? = some (.cells #[.int .i64 0, .slice none 0 0] 28 (0, 0)) := (heap_setCell_other wq ⟨g, 0, none⟩ w.heap.size (.int .i64 (n : Int)) (by dsimp only; omega)).trans hB0q
        go_wp2
        go_roundw
        case rel =>
          refine ⟨n + 1, by omega, by omega, by go_num, hblq.setCell hgs _, ?_, ?_, ?_⟩
          · simpa using hszq
          · exact hB3
          · rw [HE1.out]; exact hB2
        case measure => simp [intOf]; omega
      · have hk : ¬ kindB b1 = (n : Int) := fun e => hxy (HYX.out.2 e)
        have e1 : kindTo b1 (n + 1) = kindTo b1 n := by
          unfold kindTo
          by_cases h : kindB b1 < (n : Int)
          · rw [if_pos h, if_pos (by omega)]
          · rw [if_neg h, if_neg (by omega)]
        have HE1 := Lib.hid e1
        have hxb : ((y : Int) == (x : Int)) = false := by simp; omega
        clear e1 hk hxy
        go_wp2
        go_quiet (fail)
        go_wp2
        go_roundw
        case rel => exact ⟨n + 1, by omega, by omega, by go_num, belowQ hbl nq, hsz, hB0, by rw [HE1.out]; exact hB1⟩
        case measure => simp [intOf]; omega
    · obtain rfl : n = 5 := by omega
      have e5 : kindTo b1 5 = kindB b1 := by have := kind_lt b1; unfold kindTo; rw [if_pos (by omega)]
      rw [e5] at hB1
      obtain ⟨k, hk⟩ : ∃ k, k = kindB b1 := ⟨_, rfl⟩
      rw [← hk] at hB1
      have HK := Lib.hid hk
      clear e5 hk
      have i5 : decide ((5 : Int) ≤ 4) = false := by decide
      have hBn := hB1
      have PA := Lib.hid (fun wx : World => rparse_full (t.extract 2 4) wx (by rw [ext_size _ _ _ (by omega) (by omega)]; unfold maxLen; omega))
      have hx2 : ((2 : Int)) ≤ (t.size : Int) := by omega
      have hx4 : ((4 : Int)) ≤ (t.size : Int) := by omega
      obtain ⟨pn, hpn⟩ : ∃ v, v = parN (t.extract 2 4).data.toList := ⟨_, rfl⟩
      obtain ⟨pe, hpe⟩ : ∃ v, v = parE (t.extract 2 4).data.toList := ⟨_, rfl⟩
      rw [← hpn, ← hpe] at PA
      have HPN := Lib.hid hpn
      have HPE := Lib.hid hpe
      clear hpn hpe
      obtain ⟨c1, c2⟩ := two_of hB1
      obtain ⟨f1, f2⟩ := free_two hB1
      obtain ⟨d1, d2⟩ := two_of hB0
      obtain ⟨y1, y2⟩ := free_two hB0
      have hbad : k = 0 ∨ pe ≠ 0 := by
        by_cases hk : k = 0
        · exact .inl hk
        · right
          intro hp
          have h := HMO.out
          unfold markOk at h
          rw [decide_eq_true h4, decide_eq_true H0.out, decide_eq_true (show kindB (t.data.toList.getD 1 0) ≠ 0 by rw [← HB1.out, ← HK.out]; exact hk), decide_eq_true (show parE (t.extract 2 4).data.toList = 0 by rw [← HPE.out]; exact hp)] at h
          cases h
      · obtain ⟨r1, r2⟩ := grp_unmarked HMO.out
        have HR := Lib.hid (And.intro r1 r2)
        clear r1 r2
        have hg3 : GrpPost t w (.returned (.tuple #[.agg #[.int .i64 k, .slice none 0 0], .string ⟨#[]⟩, .int .i64 4])) ((wr.setCell ⟨w.heap.size, 0, none⟩ (.int .i64 k)).setCell ⟨w.heap.size, 1, none⟩ (.slice none 0 0)) :=
          ⟨(hbl.setCell (Nat.le_refl _) _).setCell (Nat.le_refl _) _, k, _, _, _, by rw [HR.out.1, HR.out.2], fun h => by rw [HR.out.2] at h; cases h⟩
        have HG3 := Lib.hid hg3
        clear hg3
        by_cases hk : k = 0
        · subst hk
          go_wp2_with (go_at_call 64; (with_reducible refine (PA.out _).mono ?_); rintro e wz ⟨rfl, rfl⟩)
          refine bodyPost_ret ?_ ?_ HG3.out
          · have q := two_put hB0 (.int .i64 0) (.slice none 0 0)
            have q0 := q.1
            have q1 := q.2
            simp [results, Tryd.results43, go_sem, q0, q1]
          · rfl
        · have hkb : (k == 0) = false := by simp [hk]
          have hpb : (pe != 0) = true := by rcases hbad with h | h; exact absurd h hk; simpa using h
          go_wp2_with (go_at_call 64; (with_reducible refine (PA.out _).mono ?_); rintro e wz ⟨rfl, rfl⟩)
          refine bodyPost_ret ?_ ?_ HG3.out
          · have q := two_put hB0 (.int .i64 k) (.slice none 0 0)
            have q0 := q.1
            have q1 := q.2
            simp [results, Tryd.results43, go_sem, q0, q1]
          · rfl

/-- Where the mark may not be read. -/
theorem rgrp_unmarked (t : ByteArray) (w : World) (hmo : markOk t = false) : Calls Tryd.prog 43 #[.string t] w (GrpPost t w) := by
  by_cases h : t.size < 4 ∨ t.data.toList.getD 0 0 ≠ 45
  · exact rgrp_short t w h
  · exact rgrp_bad t w (by omega) (by simpa using fun e => h (.inr e)) hmo

end Go.Proofs.YtdmgmfdmakheiaaDoor

namespace Go.Proofs.YtdmgmfdmakheiaaDoor
open Go Go.RowKit
set_option linter.unusedVariables false
set_option linter.unusedSimpArgs false

/-- The cells of primitives. -/
def primCells (l : List Prim) : List Value := l.flatMap fun x => [.int .i64 x.1, .string x.2]
theorem primCells_length (l : List Prim) : (primCells l).length = l.length * 2 := by
  induction l with
  | nil => rfl
  | cons x t ih =>
    have : (primCells (x :: t)).length = 2 + (primCells t).length := by simp [primCells]; omega
    rw [this, ih, List.length_cons]; omega
theorem primCells_append (a b : List Prim) : primCells (a ++ b) = primCells a ++ primCells b := by simp [primCells]
theorem primCells_at : ∀ {l : List Prim} {j : Nat} {c : Int} {r : ByteArray}, l[j]? = some (c, r) → (primCells l)[j * 2]? = some (.int .i64 c) ∧ (primCells l)[j * 2 + 1]? = some (.string r)
  | [], _, _, _, h => by simp at h
  | x :: t, 0, c, r, h => by
    simp at h
    subst h
    exact ⟨rfl, rfl⟩
  | x :: t, j + 1, c, r, h => by
    obtain ⟨h1, h2⟩ := primCells_at (l := t) (j := j) (by simpa using h)
    have e : primCells (x :: t) = .int .i64 x.1 :: .string x.2 :: primCells t := by simp [primCells]
    rw [e, show (j + 1) * 2 = j * 2 + 1 + 1 by omega, show j * 2 + 1 + 1 + 1 = (j * 2 + 1) + 1 + 1 by omega]
    exact ⟨by simpa using h1, by simpa using h2⟩
/-- A slice that the call owns, read as primitives. -/
theorem prims_of_owns {w : World} {base n : Nat} {T : TypeId} {v : Value} {l : List Prim} (h : w.ownsRow base T 2 v n (primCells l)) (hr : ∀ x, x ∈ l → x.2.size ≤ maxLen - 2) : PrimsAt w.heap.size w v l := by
  have hn : n = l.length := by have := h.1; rw [primCells_length] at this; omega
  rcases h.2 with ⟨rfl, h0⟩ | ⟨g, cap, cur, rfl, hb, hg, hnc, hcm, hcs, hcu⟩
  · have hl : l.length = 0 := by omega
    refine ⟨none, 0, by rw [hl], by omega, Nat.zero_le _, fun j hj => absurd hj (by omega)⟩
  · subst hn
    refine ⟨_, cap, rfl, hnc, hcm, fun j hj => ?_⟩
    have e : l[j]? = some (l[j].1, l[j].2) := by rw [List.getElem?_eq_getElem hj]
    obtain ⟨h1, h2⟩ := primCells_at e
    have hlt : g < w.heap.size := by
      rcases Nat.lt_or_ge g w.heap.size with h' | h'
      · exact h'
      · rw [Array.getElem?_eq_none h'] at hg; cases hg
    refine ⟨g, 0, _, _, e, rfl, hlt, ?_, ?_, hr _ (List.getElem_mem hj)⟩
    · have := h.cells (g := g) rfl _ _ h1
      rw [Addr.add_lit] at this; exact this
    · have := h.cells (g := g) rfl _ _ h2
      rw [Addr.add_lit, ← Nat.add_assoc] at this; exact this

/-- The state of a reading: r the block of the result, g that of the group. -/
def GSt (T TP : TypeId) (w wr : World) (g : Nat) (k : Int) (v : Value) (acc : List Prim) : Prop :=
  Below w.heap.size w wr ∧ w.heap.size < g ∧ g < wr.heap.size ∧ wr.heap[w.heap.size]? = some (.cells #[.int .i64 0, .slice none 0 0] T (0, 0)) ∧ wr.heap[g]? = some (.cells #[.int .i64 k, v] T (0, 0)) ∧ wr.ownsRow (g + 1) TP 2 v acc.length (primCells acc) ∧ ∀ x, x ∈ acc → x.2.size ≤ maxLen - 2
theorem GSt.below {T TP : TypeId} {w wr wn : World} {g : Nat} {k : Int} {v : Value} {acc : List Prim} (h : GSt T TP w wr g k v acc) (hb : Below wr.heap.size wr wn) : GSt T TP w wn g k v acc := by
  obtain ⟨h1, h2, h3, h4, h5, h6, h7⟩ := h
  refine ⟨h1.trans (hb.mono h1.size), h2, Nat.lt_of_lt_of_le h3 hb.size, keepB hb (by omega) h4, keepB hb h3 h5, ?_, h7⟩
  have hg : wr.grownBy wn none := ⟨hb.os, hb.tape, hb.output, hb.size, fun i hi _ => hb.block i hi⟩
  refine h6.kept hg ?_
  cases e : v.ownBlock with
  | none => exact .inl rfl
  | some b => exact .inr (by simp)
theorem GSt.drewN {T TP : TypeId} {w wr : World} {g : Nat} {k : Int} {v : Value} {acc : List Prim} (h : GSt T TP w wr g k v acc) (n : Nat) : GSt T TP w (wr.drewN n) g k v acc :=
  h.below (belowQ (Below.refl _ _) n)
theorem GSt.start {T TP : TypeId} {w wr : World} {g : Nat} {k : Int} (hbl : Below w.heap.size w wr) (hg : w.heap.size < g) (hs : g < wr.heap.size) (h0 : wr.heap[w.heap.size]? = some (.cells #[.int .i64 0, .slice none 0 0] T (0, 0))) (h1 : wr.heap[g]? = some (.cells #[.int .i64 k, .slice none 0 0] T (0, 0))) : GSt T TP w wr g k (.slice none 0 0) [] :=
  ⟨hbl, hg, hs, h0, h1, World.ownsRow_nil wr _ _ _, fun x hx => by cases hx⟩
/-- One primitive more: the append has left w2, and the slice is stored. -/
theorem GSt.push {T TP : TypeId} {w wr w2 : World} {g : Nat} {k : Int} {v v' : Value} {acc : List Prim} {c : Int} {r : ByteArray} (h : GSt T TP w wr g k v acc) (hr : r.size ≤ maxLen - 2)
    (hown : w2.ownsRow (g + 1) TP 2 v' (acc.length + 1) (primCells acc ++ [.int .i64 c, .string r])) (hg : wr.grownBy w2 v.ownBlock) : GSt T TP w (w2.setCell ⟨g, 1, none⟩ v') g k v' (acc ++ [(c, r)]) := by
  obtain ⟨h1, h2, h3, h4, h5, h6, h7⟩ := h
  have hob : ∀ b, v.ownBlock = some b → g + 1 ≤ b := fun b e => (h6.lt b e).1
  have h1' : Below w.heap.size w w2 := h1.grown hg h1.size (fun b e => by have := hob b e; omega)
  have k4 : w2.heap[w.heap.size]? = some (.cells #[.int .i64 0, .slice none 0 0] T (0, 0)) := (hg.block _ (by omega) (by intro e; have := hob _ e.symm; omega)).trans h4
  have k5 : w2.heap[g]? = some (.cells #[.int .i64 k, v] T (0, 0)) := (hg.block _ h3 (by intro e; have := hob _ e.symm; omega)).trans h5
  have hsz : (w2.setCell ⟨g, 1, none⟩ v').heap.size = w2.heap.size := by simp
  refine ⟨h1'.setCell (Nat.le_of_lt h2) _, h2, by rw [hsz]; exact Nat.lt_of_lt_of_le h3 hg.size, ?_, two_set1 k5 v', ?_, ?_⟩
  · exact (heap_setCell_other w2 ⟨g, 1, none⟩ w.heap.size v' (by dsimp only; omega)).trans k4
  · have hgs : w2.grownBy (w2.setCell ⟨g, 1, none⟩ v') (some g) := ⟨rfl, rfl, rfl, by rw [hsz]; exact Nat.le_refl _, fun i hi hne => heap_setCell_other w2 ⟨g, 1, none⟩ i v' (by dsimp only; intro e; exact hne (by rw [e]))⟩
    have hp := hown.kept hgs (.inr (by intro e; have := (hown.lt g e).1; omega))
    rw [List.length_append, primCells_append]
    exact hp
  · intro x hx
    rcases List.mem_append.1 hx with hx | hx
    · exact h7 x hx
    · cases List.mem_singleton.1 hx
      exact hr

/-- The group is stored as the result. -/
theorem GSt.final {T TP : TypeId} {w wr : World} {g : Nat} {k : Int} {v : Value} {acc : List Prim} (h : GSt T TP w wr g k v acc) :
    PrimsAt ((wr.setCell ⟨w.heap.size, 0, none⟩ (.int .i64 k)).setCell ⟨w.heap.size, 1, none⟩ v).heap.size ((wr.setCell ⟨w.heap.size, 0, none⟩ (.int .i64 k)).setCell ⟨w.heap.size, 1, none⟩ v) v acc ∧ Below w.heap.size w ((wr.setCell ⟨w.heap.size, 0, none⟩ (.int .i64 k)).setCell ⟨w.heap.size, 1, none⟩ v) := by
  obtain ⟨h1, h2, h3, h4, h5, h6, h7⟩ := h
  refine ⟨prims_of_owns (base := g + 1) (n := acc.length) (T := TP) ?_ h7, (h1.setCell (Nat.le_refl _) _).setCell (Nat.le_refl _) _⟩
  have hg : wr.grownBy ((wr.setCell ⟨w.heap.size, 0, none⟩ (.int .i64 k)).setCell ⟨w.heap.size, 1, none⟩ v) (some w.heap.size) :=
    ⟨rfl, rfl, rfl, by simp, fun i hi hne => by
      have hn : i ≠ w.heap.size := fun e => hne (by rw [e])
      rw [heap_setCell_other _ ⟨w.heap.size, 1, none⟩ i v hn, heap_setCell_other _ ⟨w.heap.size, 0, none⟩ i _ hn]⟩
  exact h6.kept hg (.inr (by intro e; have := (h6.lt _ e).1; omega))

end Go.Proofs.YtdmgmfdmakheiaaDoor
