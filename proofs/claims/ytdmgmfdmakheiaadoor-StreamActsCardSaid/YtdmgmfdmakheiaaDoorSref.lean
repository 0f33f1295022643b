/- Contracts of the document's own functions of stream: Permitted, Mark, follows. -/
import Derived.Test.YtdmgmfdmakheiaaDoorSread
import Derived.Test.YtdmgmfdmakheiaaDoorPopn
import Derived.Test.YtdmgmfdmakheiaaDoorRefc
namespace Go.Proofs.YtdmgmfdmakheiaaDoor
open Go.ChangeShapes Go.WideShapes Go.ChangeAt Go.RowKit
set_option linter.unusedVariables false
set_option linter.unusedSimpArgs false

/-- A slice literal of numbers that the call makes. -/
theorem ints_new (w : World) (T : TypeId) (l : List Int) (cap : Nat) (hc : l.length ≤ cap) (hl : 0 < l.length) : IntsAt (w.alloc (.cells (l.map fun z => Value.int .i64 z).toArray T)).heap.size (w.alloc (.cells (l.map fun z => Value.int .i64 z).toArray T)) (.slice (some ⟨w.heap.size, 0, none⟩) l.length cap) l := by
  refine ⟨_, cap, rfl, hc, fun j hj => ⟨w.heap.size, 0, rfl, by simp, ?_⟩⟩
  rw [Nat.zero_add, cell_of_row _ _ _ _ _ _ (heap_alloc_new w _)]
  simp [hj]

/-- What Permitted leaves. -/
def PermPost (k : Int) (w : World) (e : Ending) (w' : World) : Prop := ∃ v, e = .returned v ∧ Below w.heap.size w w' ∧ IntsAt w'.heap.size w' v (permL k)
set_option maxRecDepth 100000 in
theorem rperm_any (k : Int) (w : World) : Calls Tryd.prog 26 #[.int .i64 k] w (PermPost k w) := by
  have b1 := fun o => (Below.refl w.heap.size w).alloc (o := o) (Nat.le_refl _)
  by_cases h1 : k = 1
  · subst h1
    go_enter Tryd.func26, Tryd.ntmps26
    go_wp2
    go_ret
    exact ⟨_, rfl, b1 _, ints_new w _ [7] 1 (by decide) (by decide)⟩
  · by_cases h2 : k = 2
    · subst h2
      go_enter Tryd.func26, Tryd.ntmps26
      go_wp2
      go_ret
      exact ⟨_, rfl, b1 _, ints_new w _ [7] 1 (by decide) (by decide)⟩
    · by_cases h3 : k = 3
      · subst h3
        go_enter Tryd.func26, Tryd.ntmps26
        go_wp2
        go_ret
        exact ⟨_, rfl, b1 _, ints_new w _ [3, 7] 2 (by decide) (by decide)⟩
      · by_cases h4 : k = 4
        · subst h4
          go_enter Tryd.func26, Tryd.ntmps26
          go_wp2
          go_ret
          exact ⟨_, rfl, b1 _, ints_new w _ [8, 1] 2 (by decide) (by decide)⟩
        · have e1 : (k == 1) = false := by simp [h1]
          have e2 : (k == 2) = false := by simp [h2]
          have e3 : (k == 3) = false := by simp [h3]
          have e4 : (k == 4) = false := by simp [h4]
          have hp : permL k = [] := by unfold permL; rw [if_neg (by omega), if_neg h3, if_neg h4]
          have HP := Lib.hid hp
          clear hp
          go_enter Tryd.func26, Tryd.ntmps26
          go_wp2
          go_ret
          refine ⟨_, rfl, Below.refl _ _, ?_⟩
          rw [HP.out]
          exact ⟨none, 0, rfl, Nat.le_refl _, fun j hj => absurd hj (Nat.not_lt_zero _)⟩
set_option maxRecDepth 100000 in
/-- The slice that Permitted makes, where there is one. -/
theorem rperm_at (k : Int) (w : World) (hk : 1 ≤ k ∧ k ≤ 4) : Calls Tryd.prog 26 #[.int .i64 k] w fun e w' => ∃ T, e = .returned (.slice (some ⟨w.heap.size, 0, none⟩) (permL k).length (permL k).length) ∧ w' = w.alloc (.cells ((permL k).map fun z => Value.int .i64 z).toArray T) := by
  obtain rfl | rfl | rfl | rfl : k = 1 ∨ k = 2 ∨ k = 3 ∨ k = 4 := by omega
  all_goals
    go_enter Tryd.func26, Tryd.ntmps26
    go_wp2
    go_ret
    exact ⟨_, rfl, rfl⟩

theorem mark_cat (k n : Nat) (h1 : 1 ≤ k) (h4 : k ≤ 4) : ({ data := #[45] } : ByteArray) ++ ({ data := #[63, 65, 66, 67, 71] } : ByteArray).extract k (k + 1) ++ strL (digsL n 2) = strL (markL (k : Int) (n : Int)) := by
  apply ByteArray.ext
  apply Array.toList_inj.1
  rw [ByteArray.data_append, Array.toList_append, ByteArray.data_append, Array.toList_append, ext_data]
  obtain rfl | rfl | rfl | rfl : k = 1 ∨ k = 2 ∨ k = 3 ∨ k = 4 := by omega
  all_goals rfl
set_option maxHeartbeats 800000 in
set_option maxRecDepth 100000 in
theorem rmark_good (k n : Nat) (w : World) (h1 : 1 ≤ k) (h4 : k ≤ 4) (hn : n ≤ 4095) : Calls Tryd.prog 24 #[.int .i64 (k : Int), .int .i64 (n : Int)] w fun e w' => e = .returned (.tuple #[.string (strL (markL k n)), .int .i64 0]) ∧ Below w.heap.size w w' := by
  have PM0 := fun wx : World => rperm_any (k : Int) wx
  have NU := Lib.hid (fun wx : World => rnumber_in n 2 wx (by decide) (by decide) (by omega))
  rw [show ((2 : Nat) : Int) = 2 from rfl] at NU
  have hne : permL (k : Int) ≠ [] := fun e => by have := (permL_none k).1 e; omega
  obtain ⟨m, hm⟩ : ∃ m, m = (permL (k : Int)).length := ⟨_, rfl⟩
  have hm0 : 0 < m := by rw [hm]; exact List.length_pos_iff.2 hne
  have PM : Hid (∀ wx : World, Calls Tryd.prog 26 #[.int .i64 (k : Int)] wx fun e w' => ∃ ao cap, e = .returned (.slice ao m cap) ∧ Below wx.heap.size wx w' ∧ m ≤ cap) := fun wx => (PM0 wx).mono fun e w' ⟨v, he, hb, ao, cap, hv, hc, _⟩ => ⟨ao, cap, by rw [he, hv, hm], hb, by rw [hm]; exact hc⟩
  have hmz : ((m : Int) == 0) = false := by simp; omega
  have HM := Lib.hid (mark_cat k n h1 h4)
  obtain ⟨D, hD⟩ : ∃ D, D = strL (digsL n 2) := ⟨_, rfl⟩
  have hDz : D.size = 2 := by rw [hD]; show (digsL n 2).toArray.size = 2; simp [digsL_length]
  rw [← hD] at NU HM
  have hk1 : IntKind.i64.wrap ((k : Int) + 1) = ((k + 1 : Nat) : Int) := by rw [IntKind.wrap_i64]; omega
  have hk0 : (0 : Int) ≤ (k : Int) := by omega
  have hk5 : ((k + 1 : Nat) : Int) ≤ 5 := by omega
  have hkk : (k : Int) ≤ ((k + 1 : Nat) : Int) := by omega
  have hz1 : (({ data := #[63, 65, 66, 67, 71] } : ByteArray).extract k (k + 1)).size = 1 := by rw [ext_size _ _ _ (by omega) (by show k + 1 ≤ 5; omega)]; omega
  have hn0 : ¬ (n : Int) < 0 := by omega
  have hn1 : ¬ (4095 : Int) < (n : Int) := by omega
  clear hne hD hm PM0
  go_enter Tryd.func24, Tryd.ntmps24
  go_wp2_with (first
    | (go_at_call 26; (with_reducible refine (PM.out _).mono ?_); rintro e w1 ⟨ao, cap, rfl, hb1, hc⟩)
    | (go_at_call 48; (with_reducible refine (NU.out _).mono ?_); rintro e w2 ⟨rfl, hb2⟩))
  go_ret2
  exact ⟨by rw [← HM.out]; rfl, hb1.trans (hb2.mono hb1.size)⟩
set_option maxRecDepth 100000 in
theorem rmark_any (k n : Int) (w : World) : Calls Tryd.prog 24 #[.int .i64 k, .int .i64 n] w fun e w' => e = .returned (.tuple #[.string (markS k n), .int .i64 (markE k n)]) ∧ Below w.heap.size w w' := by
  unfold markS markE
  by_cases hb : badMark k n
  · rw [if_pos hb, if_pos hb]
    obtain ⟨m, hm⟩ : ∃ m, m = (permL k).length := ⟨_, rfl⟩
    have PM : Hid (∀ wx : World, Calls Tryd.prog 26 #[.int .i64 k] wx fun e w' => ∃ ao cap, e = .returned (.slice ao m cap) ∧ Below wx.heap.size wx w' ∧ m ≤ cap) := fun wx => (rperm_any k wx).mono fun e w' ⟨v, he, hb, ao, cap, hv, hc, _⟩ => ⟨ao, cap, by rw [he, hv, hm], hb, by rw [hm]; exact hc⟩
    by_cases h0 : m = 0
    · subst h0
      clear hb hm
      go_enter Tryd.func24, Tryd.ntmps24
      go_wp2_with (go_at_call 26; (with_reducible refine (PM.out _).mono ?_); rintro e w1 ⟨ao, cap, rfl, hb1, hc⟩)
      go_ret2
      exact ⟨rfl, hb1⟩
    · have hmz : ((m : Int) == 0) = false := by simp; omega
      have hk : ¬ (k < 1 ∨ 4 < k) := fun h => h0 (by rw [hm, (permL_none k).2 h]; rfl)
      by_cases hn : n < 0
      · clear hb hm hk h0
        go_enter Tryd.func24, Tryd.ntmps24
        go_wp2_with (go_at_call 26; (with_reducible refine (PM.out _).mono ?_); rintro e w1 ⟨ao, cap, rfl, hb1, hc⟩)
        go_ret2
        exact ⟨rfl, hb1⟩
      · have hn2 : 4095 < n := by unfold badMark at hb; omega
        clear hb hm hk h0
        go_enter Tryd.func24, Tryd.ntmps24
        go_wp2_with (go_at_call 26; (with_reducible refine (PM.out _).mono ?_); rintro e w1 ⟨ao, cap, rfl, hb1, hc⟩)
        go_ret2
        exact ⟨rfl, hb1⟩
  · rw [if_neg hb, if_neg hb]
    unfold badMark at hb
    obtain ⟨k', rfl⟩ : ∃ k' : Nat, k = (k' : Int) := ⟨k.toNat, by omega⟩
    obtain ⟨n', rfl⟩ : ∃ n' : Nat, n = (n' : Int) := ⟨n.toNat, by omega⟩
    exact rmark_good k' n' w (by omega) (by omega) (by omega)

set_option maxHeartbeats 800000 in
set_option maxRecDepth 100000 in
theorem rfollows_any (k : Int) (vi : Value) (L : List (Int × ByteArray)) (w : World) (hL : PrimsAt w.heap.size w vi L) (hlen : L.length ≤ 1000000) : Calls Tryd.prog 34 #[.agg #[.int .i64 k, vi]] w fun e w' => e = .returned (.bool (follL k L)) ∧ Below w.heap.size w w' := by
  obtain ⟨ao, cap, rfl, hlc, hcm, hrd⟩ := hL
  unfold maxLen at hcm
  obtain ⟨P, hP⟩ : ∃ P, P = permL k := ⟨_, rfl⟩
  obtain ⟨m, hm⟩ : ∃ m, m = P.length := ⟨_, rfl⟩
  have hm2 : m ≤ 2 := by rw [hm, hP]; exact permL_len k
  have PM : Hid (∀ wx : World, Calls Tryd.prog 26 #[.int .i64 k] wx fun e w' => ∃ ap cp, e = .returned (.slice ap m cp) ∧ Below wx.heap.size wx w' ∧ m ≤ cp ∧ ∀ j, j < m → ∃ b off, ap = some ⟨b, off, none⟩ ∧ b < w'.heap.size ∧ w'.cell? ⟨b, off + j, none⟩ = some (.int .i64 (P.getD j 0))) :=
    fun wx => (rperm_any k wx).mono fun e w' ⟨v, he, hb, ap, cp, hv, hc, hr⟩ => ⟨ap, cp, by rw [he, hv, hm, hP], hb, by rw [hm, hP]; exact hc, fun j hj => by rw [hP]; exact hr j (by rw [← hP, ← hm]; exact hj)⟩
  have k0 := two_new w (.int .i64 k) (.slice ao L.length cap) 28
  have g0 : w.heap.size < (w.alloc (.cells #[.int .i64 k, .slice ao L.length cap] 28)).heap.size := by simp
  have b0 := (Below.refl w.heap.size w).alloc (o := .cells #[.int .i64 k, .slice ao L.length cap] 28) (Nat.le_refl _)
  obtain ⟨F, hF⟩ : ∃ F, F = follL k L := ⟨_, rfl⟩
  rw [← hF]
  have HF := Lib.hid hF
  clear hF
  by_cases h0 : m = 0
  · have hf := foll_none (k := k) (L := L) (by rw [← hP, ← hm]; exact h0)
    have HF2 := Lib.hid hf
    subst h0
    clear hf hm hP hrd
    go_enter Tryd.func34, Tryd.ntmps34
    go_wp2_with (go_at_call 26; (with_reducible refine (PM.out _).mono ?_); rintro e w1 ⟨ap, cp, rfl, hb1, hc, hr⟩; have k1 := two_keep hb1 g0 k0)
    go_ret
    exact ⟨by rw [HF.out, HF2.out]; rfl, b0.trans (hb1.mono (Nat.le_of_lt g0))⟩
  · have hmz : ((m : Int) == 0) = false := by simp; omega
    by_cases hr1 : L.length % m = 0
    · have hrz : ((L.length : Int).tmod (m : Int)) = 0 := by rw [Int.tmod_eq_emod, if_pos (.inl (by omega))]; simp; omega
      have HG := Lib.hid (fun h => foll_good (k := k) (L := L) (by rw [← hP, ← hm]; exact h0) (by rw [← hP, ← hm]; exact hr1) h)
      have HBD := Lib.hid (fun j c r hj h => foll_bad (k := k) (L := L) j c r hj h)
      rw [← hP, ← hm] at HG HBD
      have HRD := Lib.hid hrd
      clear hm hP hr1 hrd
      go_enter Tryd.func34, Tryd.ntmps34
      go_wp2_with (go_at_call 26; (with_reducible refine (PM.out _).mono ?_); rintro e w1 ⟨ap, cp, rfl, hb1, hc, hr⟩; have k1 := two_keep hb1 g0 k0)
      obtain ⟨b, off, rfl, hbw, _⟩ := hr 0 (by omega)
      have hr' : Hid (∀ q, q < m → w1.cell? ⟨b, off + q, none⟩ = some (.int .i64 (P.getD q 0))) := by
        intro q hq
        obtain ⟨b', off', e, _, hc'⟩ := hr q hq
        cases e
        exact hc'
      clear hr
      have hbb := b0.trans (hb1.mono (Nat.le_of_lt g0))
      clear b0 g0 k0 hb1 k1 hc
      go_loopw [24] (fun i wr => ∃ j : Nat, j ≤ L.length ∧ i = .int .i64 j ∧ Below w.heap.size w wr ∧ Below w1.heap.size w1 wr ∧ ∀ q, q < j → ∀ c r, L[q]? = some (c, r) → c = P.getD (q % m) 0) (fun i _ => L.length - (intOf i).toNat)
      case atStart => exact ⟨0, Nat.zero_le _, rfl, hbb, Below.refl _ _, fun q hq => absurd hq (Nat.not_lt_zero _)⟩
      case round =>
        clear hbb
        obtain ⟨j, hj, rfl, q1, q2, hag⟩ := hrel
        have HA := Lib.hid hag
        clear hag
        by_cases hlt : j < L.length
        · obtain ⟨be, oe, c, r, hj', rfl, hbe, ce1, ce2, hrs⟩ := HRD.out j hlt
          have hne : be ≠ wr.heap.size := by have := q1.size; omega
          have hnb : b ≠ wr.heap.size := by have := q2.size; omega
          replace ce1 := (q1.cell (p := ⟨be, oe + j * 2, none⟩) hbe).trans ce1
          replace ce2 := (q1.cell (p := ⟨be, oe + j * 2 + 1, none⟩) hbe).trans ce2
          have hjm : (j : Int).tmod (m : Int) = ((j % m : Nat) : Int) := by rw [Int.tmod_eq_emod, if_pos (.inl (by omega))]; simp
          have hjl : j % m < m := Nat.mod_lt _ (by omega)
          have cb := (q2.cell (p := ⟨b, off + j % m, none⟩) hbw).trans (hr'.out _ hjl)
          obtain ⟨x, hx⟩ : ∃ x, x = P.getD (j % m) 0 := ⟨_, rfl⟩
          have HX := Lib.hid hx
          rw [← hx] at cb
          obtain ⟨y, hy⟩ : ∃ y, y = j % m := ⟨_, rfl⟩
          rw [← hy] at cb hjm hjl
          clear hx hy
          have r1 := q1.alloc (o := .cells #[.int .i64 c, .string r] 48) q1.size
          have r2 := q2.alloc (o := .cells #[.int .i64 c, .string r] 48) q2.size
          have ca := two_new wr (.int .i64 c) (.string r) 48
          have cb' : (wr.alloc (.cells #[.int .i64 c, .string r] 48)).cell? ⟨b, off + y, none⟩ = some (.int .i64 x) := (((Below.refl wr.heap.size wr).alloc (o := .cells #[.int .i64 c, .string r] 48) (Nat.le_refl _)).cell (p := ⟨b, off + y, none⟩) (Nat.lt_of_lt_of_le hbw q2.size)).trans cb
          have HRr := Lib.hid hrs
          clear hrs cb q1 q2
          go_wp2
          obtain ⟨wa, hwa⟩ : ∃ wa, wa = wr.alloc (.cells #[.int .i64 c, .string r] 48) := ⟨_, rfl⟩
          rw [← hwa] at ca cb' r1 r2
          simp only [← hwa]
          obtain ⟨ca1, ca2⟩ := ca
          clear hwa hne hnb ce1 ce2
          by_cases hcx : c = x
          · have hcb : (c != x) = false := by simpa using hcx
            go_quiet (fail)
            go_wp2
            go_roundw
            case rel =>
              refine ⟨j + 1, by omega, by go_num, bdrewN r1 _, bdrewN r2 _, fun q hq c' r' he => ?_⟩
              by_cases hqj : q < j
              · exact HA.out q hqj c' r' he
              · obtain rfl : q = j := by omega
                rw [hj'] at he
                cases he
                rw [hcx, HX.out]
            case measure => simp [intOf]; omega
          · have hcb : (c != x) = true := by simpa using hcx
            go_quiet (fail)
            go_wp2
            go_ret
            exact ⟨by rw [HF.out, HBD.out j c r hj' (by rw [← HX.out]; exact hcx)]; rfl, bdrewN r1 _⟩
        · obtain rfl : j = L.length := by omega
          go_wp2
          go_ret
          exact ⟨by rw [HF.out, HG.out fun q c r hq he => HA.out q hq c r he]; rfl, q1⟩
    · have hrz : ((L.length : Int).tmod (m : Int)) = ((L.length % m : Nat) : Int) := by rw [Int.tmod_eq_emod, if_pos (.inl (by omega))]; simp
      have hrn : ((L.length % m : Nat) : Int) ≠ 0 := by omega
      obtain ⟨x, hx⟩ : ∃ x : Int, x = ((L.length % m : Nat) : Int) := ⟨_, rfl⟩
      rw [← hx] at hrz hrn
      have hxz : (x != 0) = true := by simpa using hrn
      have hf := foll_rest (k := k) (L := L) (by rw [← hP, ← hm]; exact hr1)
      have HF2 := Lib.hid hf
      clear hf hm hP hrd hr1 hx hrn
      go_enter Tryd.func34, Tryd.ntmps34
      go_wp2_with (go_at_call 26; (with_reducible refine (PM.out _).mono ?_); rintro e w1 ⟨ap, cp, rfl, hb1, hc, hr⟩; have k1 := two_keep hb1 g0 k0)
      go_ret
      exact ⟨by rw [HF.out, HF2.out]; rfl, b0.trans (hb1.mono (Nat.le_of_lt g0))⟩

end Go.Proofs.YtdmgmfdmakheiaaDoor
