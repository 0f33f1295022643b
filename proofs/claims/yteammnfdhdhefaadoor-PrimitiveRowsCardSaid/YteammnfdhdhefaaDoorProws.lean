/- The walk of the statement PrimitiveRows: whatever list of numbers comes in, the Go text returns true, provided that both tables read as the program lays them. -/
import Derived.Test.YteammnfdhdhefaaDoorPback
namespace Go.Proofs.YteammnfdhdhefaaDoor
open Go.ChangeShapes Go.WideShapes Go.ChangeAt Go.RowKit
set_option linter.unusedVariables false
set_option linter.unusedSimpArgs false

/-- Several primitives as memory holds them, and their texts in a row. -/
def cellsP (L : List (Nat × ByteArray)) : List Value := L.flatMap fun p => [.int .i64 (p.1 : Int), .string p.2]
def catT (L : List (Nat × ByteArray)) : List UInt8 := L.flatMap fun p => textL p.1 p.2.data.toList
def GoodL (L : List (Nat × ByteArray)) : Prop := ∀ p ∈ L, IsPrim p.1 p.2
theorem cellsP_snoc (L : List (Nat × ByteArray)) (c : Nat) (r : ByteArray) : cellsP (L ++ [(c, r)]) = cellsP L ++ [.int .i64 (c : Int), .string r] := by simp [cellsP]
theorem catT_snoc (L : List (Nat × ByteArray)) (c : Nat) (r : ByteArray) : catT (L ++ [(c, r)]) = catT L ++ textL c r.data.toList := by simp [catT]
theorem strL_add (a b : List UInt8) : strL a ++ strL b = strL (a ++ b) := by
  apply ByteArray.ext
  apply Array.toList_inj.1
  rw [ByteArray.data_append, Array.toList_append]
  rfl
theorem catT_sizes : ∀ L : List (Nat × ByteArray), GoodL L → ∃ q, q ≤ 209 * L.length ∧ (catT L).length = 4 * q ∧ allD (catT L) = true
  | [], _ => ⟨0, Nat.zero_le _, rfl, rfl⟩
  | (c, r) :: L, h => by
    have hp : IsPrim c r := h (c, r) (by simp)
    obtain ⟨q, hq, hl, ha⟩ := catT_sizes L (fun p hm => h p (by simp [hm]))
    obtain ⟨s4, s5, s6, _⟩ := size_four c hp.c1 hp.c8
    have ht := textL_length c hp.c1 hp.c8 _ hp.len
    refine ⟨sizeN c / 4 + q, by simp; omega, ?_, ?_⟩
    · show (textL c r.data.toList ++ catT L).length = _
      rw [List.length_append, ht, hl]; omega
    · show allD (textL c r.data.toList ++ catT L) = true
      rw [allD_append, hp.allD, ha]; rfl
theorem cellsP_get : ∀ (L : List (Nat × ByteArray)) (j : Nat) (c : Nat) (r : ByteArray), L[j]? = some (c, r) → (cellsP L)[j * 2]? = some (.int .i64 (c : Int)) ∧ (cellsP L)[j * 2 + 1]? = some (.string r)
  | [], j, c, r, h => by simp at h
  | (c', r') :: L, 0, c, r, h => by
    simp at h
    obtain ⟨rfl, rfl⟩ := h
    exact ⟨rfl, rfl⟩
  | (c', r') :: L, j + 1, c, r, h => by
    have ih := cellsP_get L j c r (by simpa using h)
    have e : cellsP ((c', r') :: L) = [.int .i64 (c' : Int), .string r'] ++ cellsP L := rfl
    rw [e, show (j + 1) * 2 = j * 2 + 2 by omega, show j * 2 + 2 + 1 = (j * 2 + 1) + 2 by omega]
    exact ih
theorem cellsP_length (L : List (Nat × ByteArray)) : (cellsP L).length = L.length * 2 := by
  induction L with
  | nil => rfl
  | cons p L ih => show ([Value.int .i64 (p.1 : Int), .string p.2] ++ cellsP L).length = _; rw [List.length_append, ih]; simp; omega
theorem catT_drop (L : List (Nat × ByteArray)) (j c : Nat) (r : ByteArray) (h : L[j]? = some (c, r)) : strL (catT (L.drop j)) = txt c r ++ strL (catT (L.drop (j + 1))) := by
  have hj : j < L.length := by
    rcases Nat.lt_or_ge j L.length with h' | h'
    · exact h'
    · rw [List.getElem?_eq_none h'] at h; cases h
  rw [List.drop_eq_getElem_cons hj]
  have e : L[j] = (c, r) := by rw [List.getElem?_eq_getElem hj] at h; exact Option.some.inj h
  rw [e]
  show strL (textL c r.data.toList ++ catT (L.drop (j + 1))) = _
  rw [← strL_add]
  rfl
theorem obelow2 {B C : Nat} {W a b : World} {e size n : Nat} {v : Value} {xs : List Value} (h : Below B W a) (hown : a.ownsRow C e size v n xs) (hBC : B ≤ C) (k : a.grownBy b v.ownBlock) (hB : B ≤ a.heap.size) : Below B W b := by
  refine h.grown k hB fun g hg => ?_
  obtain ⟨_, ⟨rfl, _⟩ | ⟨g', cap, cur, rfl, hb, _⟩⟩ := hown
  · simp [Value.ownBlock] at hg
  · simp [Value.ownBlock] at hg; omega
/-- What is owned, as a walk reads it. -/
theorem owns_reads {w : World} {C : Nat} {T : TypeId} {v : Value} {L : List (Nat × ByteArray)} (h : w.ownsRow C T 2 v L.length (cellsP L)) :
    ∃ ao cap, v = .slice ao L.length cap ∧ L.length ≤ cap ∧ ∀ j, j < L.length → ∃ b c r, L[j]? = some (c, r) ∧ ao = some ⟨b, 0, none⟩ ∧ b < w.heap.size ∧ w.cell? ⟨b, j * 2, none⟩ = some (.int .i64 (c : Int)) ∧ w.cell? ⟨b, j * 2 + 1, none⟩ = some (.string r) := by
  obtain ⟨hl, ⟨rfl, h0⟩ | ⟨g, cap, cur, rfl, hC, hh, hn, hm, hs, ht⟩⟩ := h
  · exact ⟨none, 0, by rw [h0], by omega, fun j hj => by omega⟩
  · refine ⟨some ⟨g, 0, none⟩, cap, rfl, hn, fun j hj => ?_⟩
    have e : L[j]? = some (L[j].1, L[j].2) := by rw [List.getElem?_eq_getElem hj]
    obtain ⟨g0, g1⟩ := cellsP_get L j _ _ e
    rw [← ht, List.getElem?_take] at g0 g1
    rw [if_pos (by omega)] at g0 g1
    refine ⟨g, L[j].1, L[j].2, e, rfl, lt_of_block hh, ?_, ?_⟩
    · simp only [World.cell?, hh]
      simpa using g0
    · simp only [World.cell?, hh]
      simpa using g1
theorem dec_empty : decQ ⟨#[]⟩ = ⟨0, ⟨#[]⟩, 0, 7⟩ := by
  rw [decQ_first, firstP_none ⟨#[]⟩ (fun k h1 _ h2 => by have : k ≤ 0 := h2; omega), if_pos rfl]
theorem Tryd.infoPrim : (Tryd.prog.info? 24).map (fun i => (i.zero, i.size, i.bytes)) = some (some (.agg #[.int .i64 0, .string ⟨#[]⟩]), 2, 24) := by kernel_rfl

set_option maxHeartbeats 1600000 in
set_option maxRecDepth 100000 in
theorem prows_walk (a : Option Addr) (len cap : Nat) (zs : List Int) (w : World) (hn : NumsB w.heap.size w a len cap zs) (hT : Tab w) (hL : Lay w) :
    Calls Tryd.prog 5 #[.slice a len cap] w fun e w' => e = .returned (.bool true) ∧ Below w.heap.size w w' := by
  obtain ⟨i0, hi, hz0, hz1, hz2⟩ := info_parts Tryd.infoPrim
  have AW := Lib.hid (fun (wx : World) (hx : Lay wx) => awake3_any wx hx)
  have LI := Lib.hid (fun wx : World => light_any a len cap wx)
  have RO := Lib.hid (roll_any a len cap zs w hn)
  have hLT := hL.lt
  have hTT := hT.lt
  have HL := Lib.hid hL
  have HT := Lib.hid hT
  clear hL hT hn
  have hB := Below.refl w.heap.size w
  by_cases h500 : (len : Int) ≤ 500
  · rw [decide_eq_true h500] at LI
    clear h500 hB
    go_enter Tryd.func5, Tryd.ntmps5
    go_wp2_with (first
      | (go_at_call 9; (with_reducible refine (LI.out _).mono ?_); rintro e w3 ⟨rfl, rfl⟩)
      | (go_at_call 11; (with_reducible refine (RO.out).mono ?_); rintro e w1 ⟨rfl, hb1, hd1⟩)
      | (go_at_call 33; (with_reducible refine (next_lit w.heap.size w.heap.size 6 6 rfl _ (by decide) (by decide) hd1).mono ?_); rintro e w2 ⟨⟨m, hm6, rfl⟩, hg2, hd2⟩))
    have hB2 : Below w.heap.size w w2 := gbelow hb1 hg2 hb1.size (Nat.le_refl _)
    obtain ⟨C, hC⟩ : ∃ C, C = w2.heap.size := ⟨_, rfl⟩
    have hgC : w.heap.size < C := by rw [hC]; exact hd2.lt
    clear hb1 hd1 hg2 LI RO
    go_loopw [4, 5, 29] (fun v s i wr => ∃ (j : Nat) (L : List (Nat × ByteArray)), j ≤ m ∧ L.length ≤ j ∧ GoodL L ∧ i = .int .i64 j ∧ s = .string (strL (catT L)) ∧ wr.ownsRow C 24 2 v L.length (cellsP L) ∧ Below w.heap.size w wr ∧ DiceAt w.heap.size wr w.heap.size ∧ C ≤ wr.heap.size) (fun _ _ i _ => m - (intOf i).toNat)
    case atStart => exact ⟨0, [], Nat.zero_le _, Nat.le_refl _, (fun p hp => by cases hp), rfl, rfl, World.ownsRow_nil _ _ _ _, hB2, hd2, by rw [hC]; exact Nat.le_refl _⟩
    case round =>
      clear hB2 hd2 hC
      obtain ⟨j, L, hj, hLj, hgood, rfl, rfl, hown, hB, hdi, hCs⟩ := hrel
      by_cases hlt : j < m
      · go_upto_region 9 with (go_at_call 12; (with_reducible refine (prim_any _ _ _ hdi).mono ?_); rintro e wp ⟨⟨c, raw, c1, c8, hraw, rfl⟩, hgp, hdp⟩)
        have hownp := owns_grown hown hgp hgC
        have hBp : Below w.heap.size w wp := gbelow hB hgp hB.size (Nat.le_refl _)
        have hCp : C ≤ wp.heap.size := Nat.le_trans hCs hgp.size
        have ba := (Below.refl wp.heap.size wp).alloc (o := .cells #[.int .i64 (c : Int), .string raw] 24) (Nat.le_refl _)
        replace hown := owns_below hownp ba
        replace hB := hBp.trans (ba.mono hBp.size)
        replace hdi := hdp.go ba
        have hP := two_new wp (.int .i64 (c : Int)) (.string raw) 24
        have hPs : wp.heap.size < (wp.alloc (.cells #[.int .i64 (c : Int), .string raw] 24)).heap.size := by simp
        replace hCs := Nat.le_trans hCp ba.size
        obtain ⟨W, hW⟩ : ∃ W, W = wp.alloc (.cells #[.int .i64 (c : Int), .string raw] 24) := ⟨_, rfl⟩
        rw [← hW] at hB hP hPs hown hdi hCs
        rw [← hW]
        obtain ⟨p, hp⟩ : ∃ p, p = wp.heap.size := ⟨_, rfl⟩
        rw [← hp] at hP hPs
        rw [← hp]
        clear hW hp hgp hdp hownp hBp hCp ba
        have EN := fun (wx : World) (hx : Lay wx) => yprim_any (c : Int) raw wx (by unfold maxLen; omega) hx
        by_cases hs : raw.size = rawN c
        · have hpr : IsPrim c raw := ⟨c1, c8, hs⟩
          rw [hpr.primS, hpr.primE] at EN
          have EN' := Lib.hid EN
          have hTz := hpr.txt_size
          have hz836 := (size_four c c1 c8).2.2.1
          obtain ⟨q, hq, hql, hqa⟩ := catT_sizes L hgood
          have hXz : (strL (catT L)).size ≤ 5000 := by rw [strL_size]; omega
          have hcat : ¬ 9223372036854775807 < (strL (catT L)).size + (txt c raw).size := by omega
          have hgood' : GoodL (L ++ [(c, raw)]) := by
            intro x hx
            rcases List.mem_append.1 hx with h | h
            · exact hgood x h
            · simp at h; subst h; exact hpr
          have hadd : strL (catT L) ++ txt c raw = strL (catT (L ++ [(c, raw)])) := by rw [catT_snoc, ← strL_add]; rfl
          obtain ⟨T, hTe⟩ : ∃ T, T = txt c raw := ⟨_, rfl⟩
          obtain ⟨X, hX⟩ : ∃ X, X = strL (catT L) := ⟨_, rfl⟩
          rw [← hTe] at hTz hcat hadd
          rw [← hTe] at EN'
          rw [← hX] at hXz hcat hadd
          rw [← hX]
          have HA := Lib.hid hadd
          have HG := Lib.hid hgood'
          have hnl : L.length ≤ 5 := by omega
          clear EN hpr hs hTe hX hadd hgood' hq hql hqa hgood
          go_wp2_with (first
            | (go_at_call 14; (with_reducible refine (EN'.out _ (HL.out.below hLT hB)).mono ?_); rintro e wn ⟨rfl, hb⟩; replace hP := two_keep hb hPs hP; replace hPs := Nat.lt_of_lt_of_le hPs hb.size; replace hown := owns_below hown hb; replace hB := hB.trans (hb.mono hB.size); replace hdi := hdi.go hb; replace hCs := Nat.le_trans hCs hb.size; clear hb)
            | (at_builtin; refine wpList_append_own _ rfl (.tmp 40) (.tmp 42) 33 rfl C 24 i0 (.agg #[.int .i64 0, .string ⟨#[]⟩]) 2 24 Tryd.underlying33 hi hz0 hz1 hz2 rfl (by decide) _ L.length _ rfl (hown.alloc _) ⟨wn.heap.size, 0, none⟩ 1 1 [.int .i64 (c : Int), .string raw] rfl rfl (cells_new _ _ _ _ rfl) (by intro u hu; simp at hu; rcases hu with rfl | rfl <;> rfl) (by unfold maxLen; omega) (by omega) (by simp; omega) ?_))
          intro v' w4 hown4 hgrow _
          have hk := own_kept (hown.alloc _) hgrow
          have hB4 := obelow2 (hB.alloc hB.size _) (hown.alloc _) (Nat.le_of_lt hgC) hgrow (by have := hB.size; simp; omega)
          have hd4 : DiceAt w.heap.size w4 w.heap.size := hdi.same fun q hq => by
            have hq1 : q < wn.heap.size := Nat.lt_of_le_of_lt hq hdi.lt
            exact (hk q (by omega) (by simp; omega)).trans (Below.heap_alloc wn _ q hq1)
          have hC4 : C ≤ w4.heap.size := Nat.le_trans hCs (Nat.le_trans (by simp) hgrow.size)
          have hown5 : w4.ownsRow C 24 2 v' (L ++ [(c, raw)]).length (cellsP (L ++ [(c, raw)])) := by
            rw [cellsP_snoc, show (L ++ [(c, raw)]).length = L.length + 1 by simp]
            exact hown4
          clear hown4 hgrow hk hown hB hdi hCs hP hPs
          go_wp2
          go_roundw
          case rel => exact ⟨j + 1, L ++ [(c, raw)], by omega, by simp; omega, HG.out, by go_num, by rw [HA.out], hown5, hB4, hd4, hC4⟩
          case measure => simp [intOf]; omega
        · rw [(notPrim c1 c8 hs).1, (notPrim c1 c8 hs).2] at EN
          have EN' := Lib.hid EN
          clear EN hs
          go_wp2_with (go_at_call 14; (with_reducible refine (EN'.out _ (HL.out.below hLT hB)).mono ?_); rintro e wn ⟨rfl, hb⟩; replace hown := owns_below hown hb; replace hB := hB.trans (hb.mono hB.size); replace hdi := hdi.go hb; replace hCs := Nat.le_trans hCs hb.size; clear hb)
          go_roundw
          case rel => exact ⟨j + 1, L, by omega, by omega, hgood, by go_num, rfl, hown, hB, hdi, hCs⟩
          case measure => simp [intOf]; omega
      · clear hdi
        obtain ⟨ao, cp, rfl, hLc, hread⟩ := owns_reads hown
        obtain ⟨q, hq, hql, hqa⟩ := catT_sizes L hgood
        have hLm : L.length ≤ 5 := by omega
        have hXz : (strL (catT L)).size = 4 * q := by rw [strL_size]; exact hql
        have hXl : (strL (catT L)).data.toList = catT L := rfl
        obtain ⟨f1, f2, f3, f4⟩ := bin_back (strL (catT L)) q (by omega) hXz (by rw [hXl]; exact hqa)
        have BI := fun (wx : World) (hx : Tab wx) => ybinary_any (strL (catT L)) wx (by rw [hXz]; unfold maxLen; omega) hx.lt hx
        rw [f1] at BI
        have TX := fun (wx : World) => ytext_any (decFS (strL (catT L)).data.toList) wx (by rw [f2]; unfold maxLen; omega)
        rw [f3, f4] at TX
        obtain ⟨Bn, hBn⟩ : ∃ Bn, Bn = decFS (strL (catT L)).data.toList := ⟨_, rfl⟩
        rw [← hBn] at BI TX
        obtain ⟨X, hX⟩ : ∃ X, X = strL (catT L) := ⟨_, rfl⟩
        rw [← hX] at BI TX
        rw [← hX]
        obtain ⟨n, hn⟩ : ∃ n, n = L.length := ⟨_, rfl⟩
        rw [← hn] at hread hLc hLm
        rw [← hn]
        have BI' := Lib.hid BI
        have TX' := Lib.hid TX
        have HX := Lib.hid hX
        have HR := Lib.hid hread
        have HG := Lib.hid hgood
        have HN := Lib.hid hn
        have hq5 : q ≤ 1045 := by omega
        have HXZ := Lib.hid hXz
        clear BI TX f1 f2 f3 f4 hBn hX hread hgood hql hqa hXl hown hCs hXz hn hLj hj hq
        go_wp2_with (first
          | (go_at_call 23; (with_reducible refine (BI'.out _ (HT.out.below hTT hB)).mono ?_); rintro e wb ⟨rfl, hbb⟩; replace hB := hB.trans (hbb.mono hB.size))
          | (go_at_call 25; (with_reducible refine (TX'.out _).mono ?_); rintro e wt ⟨rfl, hbt⟩; replace hB := hB.trans (hbt.mono hB.size)))
        have hbr := hbb.trans (hbt.mono hbb.size)
        clear hbb hbt BI' TX'
        go_loopw [5, 71] (fun s i wq => ∃ k : Nat, k ≤ n ∧ i = .int .i64 k ∧ s = .string (strL (catT (L.drop k))) ∧ Below w.heap.size w wq ∧ Below wr.heap.size wr wq) (fun _ i _ => n - (intOf i).toNat)
        case atStart => exact ⟨0, Nat.zero_le _, rfl, by rw [HX.out, List.drop_zero], hB, hbr⟩
        case round =>
          clear hB hbr
          obtain ⟨k, hk, rfl, rfl, hB, hbq⟩ := hrel
          by_cases hkn : k < n
          · obtain ⟨b, c, r, hLk, rfl, hbw, hc0, hc1⟩ := HR.out k hkn
            have hq0 := (hbq.cell (p := ⟨b, k * 2, none⟩) hbw).trans hc0
            have hq1 := (hbq.cell (p := ⟨b, k * 2 + 1, none⟩) hbw).trans hc1
            have hbq' : b < wr.heap.size := Nat.lt_of_lt_of_le hbw hbq.size
            have hp : IsPrim c r := HG.out (c, r) (List.mem_of_getElem? hLk)
            have hdrop := catT_drop L k c r hLk
            have hgd : GoodL (L.drop (k + 1)) := fun x hx => HG.out x (List.mem_of_mem_drop hx)
            obtain ⟨q2, hq2, hql2, _⟩ := catT_sizes _ hgd
            have hYz : (strL (catT (L.drop (k + 1)))).size ≤ 5000 := by rw [strL_size]; have := HN.out; have := List.length_drop (i := k + 1) (l := L); omega
            have hTz := hp.txt_size
            have hz := (size_four c hp.c1 hp.c8).2.2.1
            have hdec := hp.add_dec (strL (catT (L.drop (k + 1))))
            have hcut : (txt c r ++ strL (catT (L.drop (k + 1)))).extract (sizeN c) (txt c r ++ strL (catT (L.drop (k + 1)))).size = strL (catT (L.drop (k + 1))) := by
              apply ByteArray.ext
              apply Array.toList_inj.1
              rw [ext_data, ← len_is, List.take_length, ByteArray.data_append, Array.toList_append, List.drop_append_of_le_length (by rw [len_is, hTz]; exact Nat.le_refl _), List.drop_of_length_le (by rw [len_is, hTz]; exact Nat.le_refl _), List.nil_append]
            rw [hdrop]
            obtain ⟨Y, hY⟩ : ∃ Y, Y = strL (catT (L.drop (k + 1))) := ⟨_, rfl⟩
            obtain ⟨Z, hZ⟩ : ∃ Z, Z = txt c r ++ Y := ⟨_, rfl⟩
            have hZz : Z.size = sizeN c + Y.size := by rw [hZ, ByteArray.size_append, hTz]
            rw [← hY] at hYz hdec hcut
            rw [← hZ] at hdec hcut
            rw [← hY, ← hZ]
            have DE := fun (wx : World) (hx : Tab wx) (hy : Lay wx) => ydecp_any Z wx (by rw [hZz]; unfold maxLen; omega) hx hy
            rw [decP_parts, hdec] at DE
            obtain ⟨S, hS⟩ : ∃ S, S = sizeN c := ⟨_, rfl⟩
            rw [← hS] at hZz hcut
            rw [← hS] at DE
            dsimp only at DE
            have DE' := Lib.hid DE
            have HCUT := Lib.hid hcut
            have HY := Lib.hid hY
            have hs0 : (0 : Int) ≤ (S : Int) := by omega
            have hs1 : (S : Int) ≤ (Z.size : Int) := by omega
            have hs2 : ¬ (Z.size : Int) < (S : Int) := by omega
            clear DE hcut hY hZ hdec hS hZz hYz hTz hz hdrop hgd hq2 hql2 hp hc0 hc1 hbw hLk
            go_upto_region 20 with fail
            have hP := two_new wr (.int .i64 (c : Int)) (.string r) 24
            have hPs : wr.heap.size < (wr.alloc (.cells #[.int .i64 (c : Int), .string r] 24)).heap.size := by simp
            have ba := (Below.refl wr.heap.size wr).alloc (o := .cells #[.int .i64 (c : Int), .string r] 24) (Nat.le_refl _)
            replace hB := hB.trans (ba.mono hB.size)
            replace hbq := hbq.trans (ba.mono hbq.size)
            clear hq0 hq1 ba
            go_upto_region 21 with (go_at_call 19; (with_reducible refine (DE'.out _ (HT.out.below hTT hB) (HL.out.below hLT hB)).mono ?_); rintro e wn ⟨rfl, hb⟩; replace hP := two_keep hb hPs hP; replace hPs := Nat.lt_of_lt_of_le hPs hb.size; replace hbq := hbq.trans (hb.mono hbq.size); replace hB := hB.trans (hb.mono hB.size); clear hb)
            have hQ := two_new wn (.int .i64 (c : Int)) (.string r) 24
            have ba := (Below.refl wn.heap.size wn).alloc (o := .cells #[.int .i64 (c : Int), .string r] 24) (Nat.le_refl _)
            replace hP := two_keep ba hPs hP
            replace hB := hB.trans (ba.mono hB.size)
            replace hbq := hbq.trans (ba.mono hbq.size)
            clear ba
            go_wp2
            go_roundw
            case rel => exact ⟨k + 1, by omega, by go_num, by rw [HCUT.out, HY.out], hB, hbq⟩
            case measure => simp [intOf]; omega
          · obtain rfl : k = n := by omega
            have hnil : L.drop k = [] := by rw [HN.out]; exact List.drop_length
            rw [hnil, show strL (catT []) = ⟨#[]⟩ from rfl]
            have DE := fun (wx : World) (hx : Tab wx) (hy : Lay wx) => ydecp_any ⟨#[]⟩ wx (by decide) hx hy
            rw [decP_parts, dec_empty] at DE
            dsimp only at DE
            have DE' := Lib.hid DE
            clear DE hnil
            go_upto_region 26 with (go_at_call 19; (with_reducible refine (DE'.out _ (HT.out.below hTT hB) (HL.out.below hLT hB)).mono ?_); rintro e wn ⟨rfl, hb⟩; replace hB := hB.trans (hb.mono hB.size); clear hb)
            replace hB := hB.alloc (o := .cells #[.int .i64 0, .string ⟨#[]⟩] 24) hB.size
            go_wp2_with (go_at_call 10; (with_reducible refine (AW.out _ (HL.out.below hLT hB)).mono ?_); rintro e wn ⟨rfl, hb⟩; replace hB := hB.trans (hb.mono hB.size); clear hb)
            go_ret
            exact ⟨rfl, hB⟩
  · rw [decide_eq_false h500] at LI
    clear h500
    go_enter Tryd.func5, Tryd.ntmps5
    go_wp2_with (first
      | (go_at_call 9; (with_reducible refine (LI.out _).mono ?_); rintro e w3 ⟨rfl, rfl⟩)
      | (go_at_call 10; (with_reducible refine (AW.out _ (HL.out.below hLT hB)).mono ?_); rintro e wn ⟨rfl, hb⟩; replace hB := hB.trans (hb.mono hB.size); clear hb))
    go_ret
    exact ⟨rfl, hB⟩

end Go.Proofs.YteammnfdhdhefaaDoor
