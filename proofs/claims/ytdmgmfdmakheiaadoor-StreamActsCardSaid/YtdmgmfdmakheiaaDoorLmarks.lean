/- The walk of the statement StreamMarks: whatever list of numbers and whatever number come in, the Go text returns true, provided that the three tables read as the program lays them. -/
import Derived.Test.YtdmgmfdmakheiaaDoorLonce
import Derived.Test.YtdmgmfdmakheiaaDoorSpoil
namespace Go.Proofs.YtdmgmfdmakheiaaDoor
open Go.ChangeShapes Go.WideShapes Go.ChangeAt Go.RowKit
set_option linter.unusedVariables false
set_option linter.unusedSimpArgs false

theorem groups_single (w : World) (k : Int) (vi : Value) (L : List Prim) (T : TypeId) (hp : PrimsAt w.heap.size w vi L) : GroupsAt (w.alloc (.cells #[.int .i64 k, vi] T)).heap.size (w.alloc (.cells #[.int .i64 k, vi] T)) (.slice (some ⟨w.heap.size, 0, none⟩) 1 1) [(k, L)] := by
  refine ⟨_, 1, rfl, Nat.le_refl _, by unfold maxLen; decide, fun j hj => ?_⟩
  obtain rfl : j = 0 := by simpa using hj
  have h := two_new w (.int .i64 k) vi T
  exact ⟨w.heap.size, 0, k, L, vi, rfl, rfl, by simp, h.1, h.2, hp.same (fun j hj => Below.heap_alloc w _ j hj) (by simp)⟩
theorem ints_form {B : Nat} {w : World} {v : Value} {l : List Int} (h : IntsAt B w v l) : ∃ ao cap, v = .slice ao l.length cap := by
  obtain ⟨ao, cap, h, _⟩ := h
  exact ⟨ao, cap, h⟩

set_option maxHeartbeats 1600000 in
set_option maxRecDepth 100000 in
theorem marks4_walk (a : Option Addr) (len cap : Nat) (zs : List Int) (by_ : Int) (w : World) (hn : NumsB w.heap.size w a len cap zs) (k1 : -9223372036854775808 ≤ by_) (k2 : by_ ≤ 9223372036854775807) (hT : Tbs w) :
    Calls Tryd.prog 6 #[.slice a len cap, .int .i64 by_] w fun e w' => e = .returned (.bool true) ∧ Below w.heap.size w w' := by
  have AW := Lib.hid (fun (wx : World) (hx : Tbs wx) => awake4_any wx hx)
  have LI := Lib.hid (fun wx : World => light_any a len cap wx)
  have RO := Lib.hid (roll_any a len cap zs w hn)
  have HT := Lib.hid hT
  clear hT hn
  have hB := Below.refl w.heap.size w
  by_cases h500 : (len : Int) ≤ 500
  · rw [decide_eq_true h500] at LI
    clear h500 hB
    go_enter Tryd.func6, Tryd.ntmps6
    go_upto_region 4 with (first
      | (go_at_call 8; (with_reducible refine (LI.out _).mono ?_); rintro e w3 ⟨rfl, rfl⟩)
      | (go_at_call 11; (with_reducible refine (RO.out).mono ?_); rintro e w1 ⟨rfl, hb1, hd1⟩)
      | (go_at_call 27; (with_reducible refine (kgroup_any _ _ _ hd1).mono ?_); rintro e w2 ⟨⟨k, ai, li, ci, L, rfl, hp, hl4, hfr⟩, hg2, hd2⟩; have hB : Below w.heap.size w w2 := gbelow hb1 hg2 hb1.size (Nat.le_refl _)))
    clear hb1 hd1 hg2 hd2 LI RO hfr
    obtain rfl : li = L.length := by obtain ⟨_, _, e, _⟩ := hp; cases e; rfl
    have hA := (Below.refl w2.heap.size w2).alloc (o := .cells #[.int .i64 k, .slice ai L.length ci] 28) (Nat.le_refl _)
    have hx := two_new w2 (.int .i64 k) (.slice ai L.length ci) 28
    have hxs : w2.heap.size < (w2.alloc (.cells #[.int .i64 k, .slice ai L.length ci] 28)).heap.size := by simp
    replace hB := hB.trans (hA.mono hB.size)
    replace hp : PrimsAt (w2.alloc (.cells #[.int .i64 k, .slice ai L.length ci] 28)).heap.size (w2.alloc (.cells #[.int .i64 k, .slice ai L.length ci] 28)) (.slice ai L.length ci) L := hp.same (fun j hj => Below.heap_alloc w2 _ j hj) hA.size
    obtain ⟨W, hW⟩ : ∃ v, v = w2.alloc (.cells #[.int .i64 k, .slice ai L.length ci] 28) := ⟨_, rfl⟩
    rw [← hW] at hB hx hxs hp
    rw [← hW]
    obtain ⟨g, hg⟩ : ∃ v, v = w2.heap.size := ⟨_, rfl⟩
    rw [← hg] at hx hxs
    rw [← hg]
    clear hW hg hA
    have hG := groups_single W k (.slice ai L.length ci) L 28 hp
    have bA := (Below.refl W.heap.size W).alloc (o := .cells #[.int .i64 k, .slice ai L.length ci] 28) (Nat.le_refl _)
    have hx2 := two_keep bA hxs hx
    have hxs2 := Nat.lt_of_lt_of_le hxs bA.size
    have hB2 := hB.trans (bA.mono hB.size)
    have EN := Lib.hid (enc_any _ [(k, L)] _ hG (by simp) (by simp [cntG]; omega) (HT.out.at hB2))
    obtain ⟨x1, x2⟩ := hx
    go_upto_region 5 with (go_at_call 12; (with_reducible refine (EN.out).mono ?_); rintro e wn ⟨rfl, hb⟩)
    replace hB := hB2.trans (hb.mono hB2.size)
    have hx3 := two_keep hb hxs2 hx2
    have hxs3 := Nat.lt_of_lt_of_le hxs2 hb.size
    clear hb hB2 bA hx2 hxs2 x1 x2 hxs hG hp EN
    by_cases hE : encGE [(k, L)] = 0
    · rw [hE]
      obtain ⟨hc, hok, hS⟩ := enc_ok hE
      rw [hS]
      obtain ⟨hf, hi, -⟩ := hok (k, L) (by simp)
      replace hf : follL k L = true := hf
      replace hi : itemsE L = 0 := hi
      obtain ⟨p0, pm, -⟩ := foll_parts hf
      have hkk : 1 ≤ k ∧ k ≤ 4 := by
        have : ¬ (k < 1 ∨ 4 < k) := fun e => p0 (by rw [(permL_none k).2 e]; rfl)
        omega
      have hS2 : strL (grpsL [(k, L)]) = strL (markL k ((L.length / (permL k).length : Nat) : Int) ++ itemsL L) := by simp [grpsL, grpL]
      rw [hS2]
      obtain ⟨P, hP⟩ : ∃ P, P = (permL k).length := ⟨_, rfl⟩
      have hme := fun (m : Nat) (h1 : L.length / P < m) (h2 : m ≤ 4095) => marks_err (k := k) (L := L) (n := L.length / P) (m := m) hf hi (by rw [hP]) h1 h2 _ rfl
      have hnq : L.length / P ≤ 4 := Nat.le_trans (Nat.div_le_self _ _) hl4
      have hP2 : P ≤ 2 := by rw [hP]; exact permL_len k
      rw [← hP] at p0 pm
      rw [← hP]
      have PE0 := fun (wx : World) (h : Shp wx) => perm_any k wx h
      unfold PermPost at PE0
      have PE1 := fun (wx : World) (h : Shp wx) => (PE0 wx h).mono (fun e w' (h : ∃ v, e = .returned v ∧ Below wx.heap.size wx w' ∧ IntsAt w'.heap.size w' v (permL k)) => (show ∃ ao cap, e = .returned (.slice ao P cap) ∧ Below wx.heap.size wx w' by
        obtain ⟨v, h1, h2, h3⟩ := h
        obtain ⟨ao, cap, rfl⟩ := ints_form h3
        exact ⟨ao, cap, by rw [h1, hP], h2⟩))
      have PE := Lib.hid PE1
      obtain ⟨n, hnn⟩ : ∃ n, n = L.length / P := ⟨_, rfl⟩
      have hq1 : ((L.length : Int) % (P : Int)) = 0 := by rw [← Int.natCast_emod, pm]; rfl
      have hq2 : (Int.tmod (L.length : Int) (P : Int)) = 0 := by rw [← hq1]; exact Int.tmod_eq_emod_of_nonneg (by omega)
      have hq3 : ((L.length : Int) / (P : Int)) = (n : Int) := by rw [hnn]; exact (Int.natCast_ediv _ _).symm
      have hq4 : (Int.tdiv (L.length : Int) (P : Int)) = (n : Int) := by rw [← hq3]; exact Int.tdiv_eq_ediv_of_nonneg (by omega)
      rw [← hnn] at hme hnq
      rw [← hnn]
      have hP0 : ((P : Int) == 0) = false := by simp; omega
      have hP00 : ¬ (P : Int) = 0 := by omega
      obtain ⟨S, hSe⟩ : ∃ S, S = strL (markL k (n : Int) ++ itemsL L) := ⟨_, rfl⟩
      rw [← hSe]
      have hml := markL_length k (n : Int)
      have hil := items_le L
      have hSz : S.size = 4 + (itemsL L).length := by rw [hSe, strL_size, List.length_append, hml]
      have hS4 : S.extract 4 S.size = strL (itemsL L) := by rw [← hml]; exact rest_of _ _ S hSe
      have hS0 : S.extract 0 4 = strL (markL k (n : Int)) := by rw [hSe, strL_ext, List.drop_zero, List.take_append_of_le_length (by omega), List.take_of_length_le (by omega)]
      obtain ⟨r, hr⟩ : ∃ r : Nat, by_ % 9 = (r : Int) := ⟨(by_ % 9).toNat, by omega⟩
      have hr9 : r < 9 := by omega
      have MD0 := fun wx : World => mod_any by_ 9 wx (by decide) (by decide) k1 k2
      rw [show ((9 : Nat) : Int) = 9 from rfl, hr] at MD0
      have MD := Lib.hid MD0
      have mk_good : ∀ z : Nat, z ≤ 4095 → markS k (z : Int) = strL (markL k (z : Int)) ∧ markE k (z : Int) = 0 := fun z hz => by
        have : ¬ badMark k (z : Int) := by unfold badMark; omega
        unfold markS markE
        rw [if_neg this, if_neg this]; exact ⟨rfl, rfl⟩
      have MK0 := fun (wx : World) (h : Shp wx) => mark_any k (n : Int) wx (by omega) h
      rw [(mk_good n (by omega)).1, (mk_good n (by omega)).2] at MK0
      have MO0 := fun (wx : World) (h : Shp wx) => mark_any k ((n + 1 + r : Nat) : Int) wx (by omega) h
      rw [(mk_good (n + 1 + r) (by omega)).1, (mk_good (n + 1 + r) (by omega)).2, show ((n + 1 + r : Nat) : Int) = (n : Int) + 1 + (r : Int) by omega] at MO0
      have herr := hme (n + 1 + r) (by omega) (by omega)
      rw [← strL_join, show ((n + 1 + r : Nat) : Int) = (n : Int) + 1 + (r : Int) by omega, ← hS4] at herr
      obtain ⟨M, hM⟩ : ∃ M, M = strL (markL k (n : Int)) := ⟨_, rfl⟩
      obtain ⟨O, hO⟩ : ∃ O, O = strL (markL k ((n : Int) + 1 + (r : Int))) := ⟨_, rfl⟩
      have hOz : O.size = 4 := by rw [hO, strL_size, markL_length]
      rw [← hM] at MK0 hS0
      rw [← hO] at MO0 herr
      have hwr : IntKind.i64.wrap (IntKind.i64.wrap ((n : Int) + 1) + (r : Int)) = (n : Int) + 1 + (r : Int) := by
        rw [wraps_i64 ((n : Int) + 1) (by omega) (by omega), wraps_i64 _ (by omega) (by omega)]
      rw [← hwr] at MO0
      have MK := Lib.hid MK0
      have MO := Lib.hid MO0
      obtain ⟨T, hTe⟩ : ∃ T, T = S.extract 4 S.size := ⟨_, rfl⟩
      have hTz : T.size ≤ 4000 := by rw [hTe, hS4, strL_size]; omega
      rw [← hTe] at herr
      have DE0 := fun (wx : World) (hx : Tbs wx) => decG_any (O ++ T) wx (by rw [ByteArray.size_append]; omega) hx
      unfold DecPost at DE0
      have hemp : decGL (O ++ T) = [] := by unfold decGL; rw [if_pos herr]
      rw [hemp] at DE0
      obtain ⟨E, hEe⟩ : ∃ v, v = decGE (O ++ T) := ⟨_, rfl⟩
      rw [← hEe] at DE0 herr
      have DE := Lib.hid DE0
      have hEn : (E != 0) = true := by simpa using herr
      have hsz4 : (4 : Int) ≤ (S.size : Int) := by omega
      have hcat : ¬ 9223372036854775807 < O.size + T.size := by omega
      have hsame := same_str (a := M) (b := M) rfl
      have hTT := hTe.symm
      have HSZ := Lib.hid hSz
      clear hE hc hok hS hS2 hf hi hkk hP hme PE0 PE1 hnn hq1 hq3 hSe hml hil hSz hS4 hr MD0 MK0 MO0 hM hO hTe DE0 hemp hEe herr mk_good k1 k2 hwr pm p0 hOz
      go_upto_region 12 with (first
        | (go_at_call 25; (with_reducible refine (PE.out _ (HT.out.at hB).shp).mono ?_); rintro e wn ⟨aq, cq, rfl, hb⟩; replace hx3 := two_keep hb hxs3 hx3; replace hxs3 := Nat.lt_of_lt_of_le hxs3 hb.size; replace hB := hB.trans (hb.mono hB.size); clear hb)
        | (go_at_call 23; (with_reducible refine (MK.out _ (HT.out.at hB).shp).mono ?_); rintro e wn ⟨rfl, hb⟩; replace hx3 := two_keep hb hxs3 hx3; replace hxs3 := Nat.lt_of_lt_of_le hxs3 hb.size; replace hB := hB.trans (hb.mono hB.size); clear hb))
      have hBd := hB.drew
      go_region_held3 (fun w' => w'.cell? ⟨g, 0, none⟩ = some (.int .i64 k) ∧ w'.cell? ⟨g, 1, none⟩ = some (.slice ai L.length ci)) (first | exact hx3 | exact hx4)
        (first
          | (go_at_call 17; (with_reducible refine (MD.out _).mono ?_); rintro e wq ⟨rfl, rfl⟩)
          | (go_at_call 23; (with_reducible refine (MO.out _ (HT.out.at hBd).shp).mono ?_); rintro e wz ⟨rfl, hbz⟩; have hx4 := two_keep hbz hxs3 hx3))
      replace hB := hBd.trans (hbz.mono hBd.size)
      clear hBd hbz hx3 hxs3
      go_wp2_with (first
        | (go_at_call 18; (with_reducible refine (DE.out _ (HT.out.at hB)).mono ?_); rintro e wd ⟨hb, v, rfl, hv⟩; replace hB := hB.trans (hb.mono hB.size); clear hb; obtain ⟨a2, c2, rfl⟩ := groups_form hv)
        | (go_at_call 9; (with_reducible refine (AW.out _ (HT.out.at hB)).mono ?_); rintro e wd ⟨rfl, hb⟩; replace hB := hB.trans (hb.mono hB.size); clear hb))
      go_ret
      exact ⟨rfl, hB⟩
    · have hEn : (encGE [(k, L)] != 0) = true := by simpa using hE
      obtain ⟨E, hEe⟩ : ∃ v, v = encGE [(k, L)] := ⟨_, rfl⟩
      rw [← hEe] at hEn
      rw [← hEe]
      clear hE hEe
      go_wp2_with (go_at_call 9; (with_reducible refine (AW.out _ (HT.out.at hB)).mono ?_); rintro e wn ⟨rfl, hb⟩; replace hB := hB.trans (hb.mono hB.size); clear hb)
      go_ret
      exact ⟨rfl, hB⟩
  · rw [decide_eq_false h500] at LI
    go_enter Tryd.func6, Tryd.ntmps6
    go_wp2_with (first
      | (go_at_call 8; (with_reducible refine (LI.out _).mono ?_); rintro e w3 ⟨rfl, rfl⟩)
      | (go_at_call 9; (with_reducible refine (AW.out _ (HT.out.at hB)).mono ?_); rintro e wn ⟨rfl, hb⟩; replace hB := hB.trans (hb.mono hB.size); clear hb))
    go_ret
    exact ⟨rfl, hB⟩

end Go.Proofs.YtdmgmfdmakheiaaDoor
