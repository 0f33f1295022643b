/- The document's Group where the mark may be read. -/
import Derived.Test.YtdmgmfdmakheiaaDoorSgst
import Derived.Deep.RegionHeld3
namespace Go.Proofs.YtdmgmfdmakheiaaDoor
open Go.ChangeShapes Go.WideShapes Go.ChangeAt Go.RowKit
set_option linter.unusedVariables false
set_option linter.unusedSimpArgs false

theorem decQ_ok (t : ByteArray) (h : (decQ t).e = 0) : ∃ n : Nat, (decQ t).n = (n : Int) ∧ n ≤ t.size ∧ (decQ t).raw.size ≤ 700 := by
  unfold decQ at h ⊢
  cases hf : (List.range 8).find? (fun i => hitP t (i + 1)) with
  | none => rw [hf] at h; cases h
  | some i =>
    rw [hf] at h
    have hi : i < 8 := by have := List.mem_of_find?_eq_some hf; simpa using this
    show ∃ n : Nat, (outQ t (i + 1)).n = (n : Int) ∧ n ≤ t.size ∧ (outQ t (i + 1)).raw.size ≤ 700
    replace h : (outQ t (i + 1)).e = 0 := h
    unfold outQ at h ⊢
    by_cases h1 : t.size < sizeN (i + 1)
    · rw [if_pos h1] at h; cases h
    · rw [if_neg h1] at h ⊢
      by_cases h2 : rawE t (i + 1) ≠ 0 ∨ (rawP t (i + 1)).extract 0 (leadN (i + 1)) ≠ (⟨#[0, 0]⟩ : ByteArray).extract 0 (leadN (i + 1))
      · rw [if_pos h2] at h; cases h
      · rw [if_neg h2]
        refine ⟨sizeN (i + 1), rfl, by omega, ?_⟩
        have he : rawE t (i + 1) = 0 := by
          rcases Decidable.em (rawE t (i + 1) = 0) with h | h
          · exact h
          · exact absurd (.inl h) h2
        have hs := rawP_size t (i + 1) (by omega) (by omega) (by omega) he
        have hl := lead_le (i + 1)
        have hr : rawN (i + 1) ≤ 626 := by
          rcases eight_codes (c := i + 1) (by omega) (by omega) with e | e | e | e | e | e | e | e <;> rw [e] <;> decide
        show ((rawP t (i + 1)).extract (leadN (i + 1)) (rawP t (i + 1)).size).size ≤ 700
        rw [ByteArray.size_extract]
        omega
theorem parN_le (s : ByteArray) (h : s.size = 2) : ∃ n : Nat, parN s.data.toList = (n : Int) ∧ n ≤ 4096 := by
  have hl : s.data.toList.length = 2 := by rw [Array.length_toList]; exact h
  unfold parN
  rw [if_neg (by omega)]
  refine ⟨_, rfl, ?_⟩
  unfold rnum
  split
  · exact Nat.le_of_lt (numL_lt_of _ 2 4096 (by omega) (by decide))
  · omega
theorem map_at {l : List Int} {q : Nat} (h : q < l.length) : (l.map fun z => Value.int .i64 z)[q]? = some (.int .i64 (l.getD q 0)) := by
  rw [List.getElem?_map, List.getElem?_eq_getElem h, List.getD, List.getElem?_eq_getElem h]
  rfl
theorem mark_read {t : ByteArray} (h : markOk t = true) : kindB (t.data.toList.getD 1 0) ≠ 0 ∧ parE (t.extract 2 4).data.toList = 0 := by
  unfold markOk at h
  simp only [Bool.and_eq_true, decide_eq_true_eq] at h
  exact ⟨h.1.2, h.2⟩
theorem grp_marked {t : ByteArray} (h : markOk t = true) : grpE t = gE (codesN (markK t) (markC t)) (t.extract 4 t.size) := by unfold grpE; rw [if_neg (by rw [h]; decide)]
theorem rdecQ_any (t : ByteArray) (w : World) (hr : t.size ≤ maxLen - 2) : Calls Tryd.prog 65 #[.string t] w fun e w' => e = .returned (.tuple #[.agg #[.int .i64 (decQ t).c, .string (decQ t).raw], .int .i64 (decQ t).n, .int .i64 (decQ t).e]) ∧ Below w.heap.size w w' := by
  rw [← decP_parts]; exact rdecp_any t w hr

theorem infop : ∃ i, Tryd.prog.info? 48 = some i ∧ i.zero = some (.agg #[.int .i64 0, .string ⟨#[]⟩]) ∧ i.size = 2 ∧ i.bytes = 24 := by
  have h : (Tryd.prog.info? 48).map (fun i => (i.zero, i.size, i.bytes)) = some (some (.agg #[.int .i64 0, .string ⟨#[]⟩]), 2, 24) := by kernel_rfl
  cases e : Tryd.prog.info? 48 with
  | none => rw [e] at h; cases h
  | some i =>
    rw [e] at h
    simp at h
    exact ⟨i, rfl, h.1, h.2.1, h.2.2⟩

set_option maxHeartbeats 8000000 in
set_option maxRecDepth 100000 in
theorem rgrp_good (t : ByteArray) (w : World) (hm : t.size ≤ maxLen - 2) (h4 : 4 ≤ t.size) (h0 : t.data.toList.getD 0 0 = 45) (hmo : markOk t = true) : Calls Tryd.prog 43 #[.string t] w (GrpPost t w) := by
  obtain ⟨w2, hw2⟩ : ∃ w2, w2 = (w.alloc (.cells #[.int .i64 0, .slice none 0 0] 28)).alloc (.cells #[.int .i64 0, .slice none 0 0] 28) := ⟨_, rfl⟩
  obtain ⟨hB0, hB1, hbl, hsz⟩ := two_groups w
  rw [← hw2] at hB0 hB1 hbl hsz
  have hs' : ¬ (t.size : Int) < 4 := by omega
  have hg : ∀ h, (t[0]'h).toNat = 45 := by intro h; rw [at_get t 0 h, h0]; rfl
  have hs2 : (0 : Int) < (t.size : Int) := by omega
  have hs3 : (1 : Int) < (t.size : Int) := by omega
  obtain ⟨b1, hb1⟩ : ∃ b, b = t.data.toList.getD 1 0 := ⟨_, rfl⟩
  obtain ⟨x, hx⟩ : ∃ x : Nat, x = b1.toNat := ⟨_, rfl⟩
  have hg1 : ∀ h, (t[1]'h).toNat = x := by intro h; rw [hx, hb1, at_get t 1 h]
  have HB1 := Lib.hid hb1
  have HX := Lib.hid hx
  have HMO := Lib.hid hmo
  have H0 := Lib.hid h0
  clear h0 hb1 hx hmo
  go_enter Tryd.func43, Tryd.ntmps43
  go_wp2
  rw [← hw2]
  obtain ⟨g, hgw⟩ : ∃ g, g = w.heap.size + 1 := ⟨_, rfl⟩
  rw [← hgw] at hB1
  simp only [← hgw]
  have HGW := Lib.hid hgw
  have hgn : w.heap.size < g := by omega
  clear hgw hw2
  go_loopw [6] (fun i wr => ∃ n : Nat, 1 ≤ n ∧ n ≤ 5 ∧ i = .int .i64 n ∧ Below w.heap.size w wr ∧ wr.heap.size = w.heap.size + 2 ∧ wr.heap[w.heap.size]? = some (.cells #[.int .i64 0, .slice none 0 0] 28 (0, 0)) ∧ wr.heap[g]? = some (.cells #[.int .i64 (kindTo b1 n), .slice none 0 0] 28 (0, 0))) (fun i _ => 5 - (intOf i).toNat)
  case atStart =>
    refine ⟨1, by omega, by omega, rfl, hbl, hsz, hB0, ?_⟩
    have : kindTo b1 1 = 0 := by have := kind_lt b1; unfold kindTo; split <;> omega
    rw [this]
    exact hB1
  case round =>
    clear hB0 hB1 hbl hsz
    obtain ⟨n, n1, n5, rfl, hbl, hsz, hB0, hB1⟩ := hrel
    by_cases hn : n ≤ 4
    · obtain ⟨y, hy⟩ : ∃ y : Nat, y = (({ data := #[63, 65, 66, 67, 71] } : ByteArray).data.toList.getD n 0).toNat := ⟨_, rfl⟩
      have hgl : ∀ h, ((({ data := #[63, 65, 66, 67, 71] } : ByteArray))[n]'h).toNat = y := by intro h; rw [hy, at_get _ n h]
      have hyx : y = x ↔ kindB b1 = (n : Int) := by
        rw [← letter_at n n1 hn b1, hy, HX.out]
        exact UInt8.toNat_inj
      have HYX := Lib.hid hyx
      clear hyx hy
      have i0 : (0 : Int) ≤ (n : Int) := by omega
      have i5 : (n : Int) < 5 := by omega
      have i4 : decide ((n : Int) ≤ 4) = true := decide_eq_true (by omega)
      by_cases hxy : y = x
      · have hk := HYX.out.1 hxy
        have e1 : kindTo b1 (n + 1) = (n : Int) := by unfold kindTo; rw [if_pos (by omega), hk]
        have HE1 := Lib.hid e1
        have hgs : w.heap.size ≤ g := by omega
        have hxb : ((y : Int) == (x : Int)) = true := by rw [hxy]; simp
        clear e1 hk hxy
        go_wp2
        go_quiet (fail)
        have hB1q : (wr.drewN nq).heap[g]? = _ := hB1
        have hB0q : (wr.drewN nq).heap[w.heap.size]? = _ := hB0
        have hszq : (wr.drewN nq).heap.size = _ := hsz
        have hblq := belowQ hbl nq
        clear hB1 hB0 hsz hbl
        obtain ⟨wq, hwq⟩ : ∃ wq, wq = wr.drewN nq := ⟨_, rfl⟩
        rw [← hwq] at hB1q hB0q hszq hblq
        rw [← hwq]
        clear hwq
        obtain ⟨hf1, hf2⟩ := free_two hB1q
        obtain ⟨hc1, hc2⟩ := two_of hB1q
        have hB2 := two_set0 hB1q (.int .i64 (n : Int))
        have hB3 : (wq.setCell ⟨g, 0, none⟩ (.int .i64 (n : Int))).heap[w.heap.size]? = some (.cells #[.int .i64 0, .slice none 0 0] 28 (0, 0)) := (heap_setCell_other wq ⟨g, 0, none⟩ w.heap.size (.int .i64 (n : Int)) (by dsimp only; omega)).trans hB0q
        go_wp2
        go_roundw
        case rel =>
          refine ⟨n + 1, by omega, by omega, by go_num, hblq.setCell hgs _, ?_, ?_, ?_⟩
          · simpa using hszq
          · exact hB3
          · rw [HE1.out]; exact hB2
        case measure => simp [intOf]; omega
      · have hk : ¬ kindB b1 = (n : Int) := fun e => hxy (HYX.out.2 e)
        have e1 : kindTo b1 (n + 1) = kindTo b1 n := by
          unfold kindTo
          by_cases h : kindB b1 < (n : Int)
          · rw [if_pos h, if_pos (by omega)]
          · rw [if_neg h, if_neg (by omega)]
        have HE1 := Lib.hid e1
        have hxb : ((y : Int) == (x : Int)) = false := by simp; omega
        clear e1 hk hxy
        go_wp2
        go_quiet (fail)
        go_wp2
        go_roundw
        case rel => exact ⟨n + 1, by omega, by omega, by go_num, belowQ hbl nq, hsz, hB0, by rw [HE1.out]; exact hB1⟩
        case measure => simp [intOf]; omega
    · obtain rfl : n = 5 := by omega
      have e5 : kindTo b1 5 = kindB b1 := by have := kind_lt b1; unfold kindTo; rw [if_pos (by omega)]
      rw [e5] at hB1
      obtain ⟨k, hk⟩ : ∃ k, k = kindB b1 := ⟨_, rfl⟩
      rw [← hk] at hB1
      have HK := Lib.hid hk
      clear e5 hk
      have i5 : decide ((5 : Int) ≤ 4) = false := by decide
      have hBn := hB1
      have PA := Lib.hid (fun wx : World => rparse_full (t.extract 2 4) wx (by rw [ext_size _ _ _ (by omega) (by omega)]; unfold maxLen; omega))
      have hx2 : ((2 : Int)) ≤ (t.size : Int) := by omega
      have hx4 : ((4 : Int)) ≤ (t.size : Int) := by omega
      obtain ⟨pn, hpn⟩ : ∃ v, v = parN (t.extract 2 4).data.toList := ⟨_, rfl⟩
      obtain ⟨pe, hpe⟩ : ∃ v, v = parE (t.extract 2 4).data.toList := ⟨_, rfl⟩
      rw [← hpn, ← hpe] at PA
      have HPN := Lib.hid hpn
      have HPE := Lib.hid hpe
      clear hpn hpe
      obtain ⟨c1, c2⟩ := two_of hB1
      obtain ⟨f1, f2⟩ := free_two hB1
      obtain ⟨d1, d2⟩ := two_of hB0
      obtain ⟨y1, y2⟩ := free_two hB0
      obtain ⟨hk0, hp0⟩ := mark_read HMO.out
      rw [← HB1.out, ← HK.out] at hk0
      rw [← HPE.out] at hp0
      subst hp0
      have hkb : (k == 0) = false := by simpa using hk0
      obtain ⟨n, hn2, hn3⟩ := parN_le (t.extract 2 4) (by rw [ext_size _ _ _ (by omega) (by omega)])
      rw [← HPN.out] at hn2
      subst hn2
      have hkk : 1 ≤ k ∧ k ≤ 4 := by have := kind_lt b1; have := HK.out; omega
      have HC : Hid (markC t = n) := by show _ = _; unfold markC; rw [← HPN.out]; simp
      have HKT : Hid (markK t = k) := by show _ = _; unfold markK; rw [← HB1.out, ← HK.out]
      have ST := GSt.start (T := 28) (TP := 48) hbl hgn (lt_of_block hB1) hB0 hB1
      have HST := Lib.hid ST
      clear hbl hsz hB0 hBn d1 d2 y1 y2 ST hk0
      go_wp2_with (go_at_call 64; (with_reducible refine (PA.out _).mono ?_); rintro e wz ⟨rfl, rfl⟩)
      obtain ⟨T0, hT0⟩ : ∃ T0, T0 = t.extract 4 t.size := ⟨_, rfl⟩
      have hT0s : T0.size ≤ maxLen - 2 := by rw [hT0, ByteArray.size_extract]; omega
      have HT0 := Lib.hid hT0
      have HPM := Lib.hid (rperm_at k)
      have HKK := Lib.hid hkk
      simp only [← hT0]
      clear hT0 PA HPE HPN hB1 c1 c2 f1 f2 hkb hkk hx2 hx4 hs' hs2 hs3 hg1 hg
      go_loopw [0, 51] (fun s i wr => ∃ (j : Nat) (tt : ByteArray) (acc : List Prim) (ao : Option Addr) (cap : Nat), j ≤ n ∧ i = .int .i64 j ∧ s = .string tt ∧ tt.size ≤ maxLen - 2 ∧ acc.length ≤ 2 * j ∧ Far (codesN k n) T0 acc (codesN k (n - j)) tt ∧ GSt 28 48 w wr g k (.slice ao acc.length cap) acc) (fun _ i _ => n - (intOf i).toNat)
      case atStart => exact ⟨0, T0, [], none, 0, Nat.zero_le _, rfl, rfl, hT0s, Nat.zero_le _, far_start _ _, HST.out⟩
      case round =>
        clear hT0s HST
        obtain ⟨j, tt, acc, ao, cap, hj, rfl, rfl, htt, hal, hfar, hst⟩ := hrel
        have HF := Lib.hid hfar
        have HS := Lib.hid hst
        have HTT := Lib.hid htt
        clear hfar htt
        obtain ⟨s1, s2, s3, s4, s5, -, -⟩ := hst
        obtain ⟨c1, c2⟩ := two_of s5
        obtain ⟨f1, f2⟩ := free_two s4
        by_cases hjn : j < n
        · clear s1 s2 s4 s5 f1 f2
          go_wp2_with (go_at_call 26; (with_reducible refine (HPM.out _ HKK.out).mono ?_); rintro e wp ⟨TT, rfl, rfl⟩)
          have hS2 := HS.out.below ((Below.refl wr.heap.size wr).alloc (o := .cells ((permL k).map fun z => Value.int .i64 z).toArray TT) (Nat.le_refl _))
          have hrow := Row.new wr ((permL k).map fun z => Value.int .i64 z).toArray TT ((permL k).map fun z => Value.int .i64 z) (by simp) (List.take_of_length_le (Nat.le_refl _))
          have hsz1 : (((permL k).map fun z => Value.int .i64 z).toArray).size = (permL k).length := by simp
          rw [hsz1] at hrow
          have hao : ∀ b : Addr, ao = some b → b.block ≠ wr.heap.size := by
            intro b e
            obtain ⟨-, -, -, -, -, ho, -⟩ := HS.out
            have := (ho.lt b.block (by rw [e]; rfl)).2
            omega
          have hdr : n - j = (n - j - 1) + 1 := by omega
          have hF2 := HF.out
          rw [hdr, codes_cons] at hF2
          have hm2 : (permL k).length ≤ 2 := permL_len k
          obtain ⟨W, hW⟩ : ∃ W, W = wr.alloc (.cells ((permL k).map fun z => Value.int .i64 z).toArray TT) := ⟨_, rfl⟩
          rw [← hW] at hS2 hrow
          rw [← hW]
          obtain ⟨bP, hbP⟩ : ∃ b, b = wr.heap.size := ⟨_, rfl⟩
          rw [← hbP] at hrow hao
          have hgP : g < bP := by rw [hbP]; exact s3
          rw [← hbP]
          obtain ⟨P, hP⟩ : ∃ P, P = permL k := ⟨_, rfl⟩
          rw [← hP] at hrow hF2 hm2 hsz1
          rw [← hP]
          obtain ⟨m, hmm⟩ : ∃ m, m = P.length := ⟨_, rfl⟩
          rw [← hmm] at hrow hm2 hsz1
          simp only [← hmm]
          have HMM := Lib.hid hmm
          clear hW hbP hP hmm hdr HS HF c1 c2 s3 hsz1
          go_loopw [0, 57] (fun s i wv => ∃ (q : Nat) (tt : ByteArray) (acc : List Prim) (ao : Option Addr) (cap : Nat), q ≤ m ∧ i = .int .i64 q ∧ s = .string tt ∧ tt.size ≤ maxLen - 2 ∧ acc.length ≤ 2 * j + q ∧ Far (codesN k n) T0 acc (P.drop q ++ codesN k (n - j - 1)) tt ∧ GSt 28 48 w wv g k (.slice ao acc.length cap) acc ∧ Row wv bP TT m (P.map fun z => Value.int .i64 z) ∧ (∀ b : Addr, ao = some b → b.block ≠ bP)) (fun _ i _ => m - (intOf i).toNat)
          case atStart => exact ⟨0, tt, acc, ao, cap, Nat.zero_le _, rfl, rfl, HTT.out, hal, hF2, hS2, hrow, hao⟩
          case round =>
            clear hS2 hF2 hrow hao HTT hal
            obtain ⟨q, tt, acc, ao, cap, hq, rfl, rfl, htt, hal, hfar, hst, hrow, hao⟩ := hrel
            by_cases hqm : q < m
            · have hdp := drop_at (l := P) (q := q) (by rw [← HMM.out]; exact hqm)
              rw [hdp, List.cons_append] at hfar
              have cP := hrow.cellAt (j := q) (u := .int .i64 (P.getD q 0)) (map_at (by rw [← HMM.out]; exact hqm))
              obtain ⟨c, hc⟩ : ∃ c, c = P.getD q 0 := ⟨_, rfl⟩
              rw [← hc] at hfar cP
              have RD0 := fun wx : World => rdecQ_any tt wx htt
              have hok := decQ_ok tt
              have hE := fun h => far_err hfar h
              have hC := fun h1 h2 => far_code hfar h1 h2
              have hN := fun h1 h2 => far_next hfar h1 h2
              unfold restQ at hN
              obtain ⟨dc, hdc⟩ : ∃ v, v = (decQ tt).c := ⟨_, rfl⟩
              obtain ⟨dr, hdr⟩ : ∃ v, v = (decQ tt).raw := ⟨_, rfl⟩
              obtain ⟨dn, hdn⟩ : ∃ v, v = (decQ tt).n := ⟨_, rfl⟩
              obtain ⟨de, hde⟩ : ∃ v, v = (decQ tt).e := ⟨_, rfl⟩
              rw [← hdc, ← hdr, ← hdn, ← hde] at RD0
              rw [← hde, ← hdn, ← hdr] at hok
              rw [← hde] at hE
              rw [← hde, ← hdc] at hC
              rw [← hde, ← hdc, ← hdr, ← hdn] at hN
              have RD := Lib.hid RD0
              have HE := Lib.hid hE
              have HCC := Lib.hid hC
              have HNN := Lib.hid hN
              have HOK := Lib.hid hok
              have HAO := Lib.hid hao
              have HTT := Lib.hid htt
              clear hdp hfar hc hdc hdr hdn hde RD0 hE hC hN hok hao htt
              go_upto_region 19 with (go_at_call 65; (with_reducible refine (RD.out _).mono ?_); rintro e wn ⟨rfl, hb⟩)
              have hst2 := (hst.below hb).below ((Below.refl wn.heap.size wn).alloc (o := .cells #[.int .i64 dc, .string dr] 48) (Nat.le_refl _))
              have hrow2 := (hrow.below hb hrow.lt).alloc (.cells #[.int .i64 dc, .string dr] 48)
              have hbox := two_new wn (.int .i64 dc) (.string dr) 48
              have hboxs : wn.heap.size < (wn.alloc (.cells #[.int .i64 dc, .string dr] 48)).heap.size := by simp
              have hvx : ∀ b, (Value.slice ao acc.length cap).ownBlock = some b → b < wn.heap.size := by
                obtain ⟨-, -, -, -, -, ho, -⟩ := hst
                exact fun b e => Nat.lt_of_lt_of_le (ho.lt b e).2 hb.size
              have hgx : g < wn.heap.size := Nat.lt_of_lt_of_le hst.2.2.1 hb.size
              have hPx : bP < wn.heap.size := Nat.lt_of_lt_of_le hrow.lt hb.size
              obtain ⟨wa, hwa⟩ : ∃ v, v = wn.alloc (.cells #[.int .i64 dc, .string dr] 48) := ⟨_, rfl⟩
              rw [← hwa] at hst2 hrow2 hbox hboxs
              rw [← hwa]
              obtain ⟨bx, hbx⟩ : ∃ v, v = wn.heap.size := ⟨_, rfl⟩
              rw [← hbx] at hbox hboxs hgx hPx hvx
              rw [← hbx]
              clear hwa hbx hb hst hrow cP
              have HS := Lib.hid hst2
              obtain ⟨s1, s2, s3, s4, s5, s6, -⟩ := hst2
              by_cases he0 : de = 0
              · subst he0
                obtain ⟨nn, hnn, hnt, hrs⟩ := HOK.out rfl
                subst hnn
                by_cases hcc : dc = c
                · have hcb : (dc != dc) = false := by simp
                  have hfar := HNN.out rfl hcc
                  subst hcc
                  have HF := Lib.hid hfar
                  have hn0 : (0 : Int) ≤ (nn : Int) := by omega
                  have hn1 : (nn : Int) ≤ (tt.size : Int) := by omega
                  obtain ⟨c1, c2⟩ := two_of s5
                  obtain ⟨f1, f2⟩ := free_two s5
                  obtain ⟨x1, x2⟩ := hbox
                  have hgs : g < wa.heap.size := s3
                  clear hfar s4 HNN HE HCC HOK RD
                  go_wp2
                  have hO : Hid ((wa.alloc (.cells #[.int .i64 dc, .string dr] 48)).drew.ownsRow (g + 1) 48 2 (.slice ao acc.length cap) acc.length (primCells acc)) := s6.alloc (.cells #[.int .i64 dc, .string dr] 48)
                  have hNw := Lib.hid (World.news_of_block (w := (wa.alloc (.cells #[.int .i64 dc, .string dr] 48)).drew) (heap_alloc_new wa (.cells #[.int .i64 dc, .string dr] 48)))
                  obtain ⟨ip, hip, hz0, hz1, hz2⟩ := infop
                  have hS0 : wa.cell? ⟨bx, 0, none⟩ = some (.int .i64 dc) ∧ wa.cell? ⟨bx, 1, none⟩ = some (.string dr) := ⟨x1, x2⟩
                  have hS0d : wa.drew.cell? ⟨bx, 0, none⟩ = some (.int .i64 dc) ∧ wa.drew.cell? ⟨bx, 1, none⟩ = some (.string dr) := hS0
                  have hbA := ((Below.refl wa.heap.size wa).alloc (o := .cells #[.int .i64 dc, .string dr] 48) (Nat.le_refl _)).drew
                  have hS1 : (wa.alloc (.cells #[.int .i64 dc, .string dr] 48)).drew.cell? ⟨bx, 0, none⟩ = some (.int .i64 dc) ∧ (wa.alloc (.cells #[.int .i64 dc, .string dr] 48)).drew.cell? ⟨bx, 1, none⟩ = some (.string dr) := two_keep hbA hboxs hS0
                  have s5a : (wa.alloc (.cells #[.int .i64 dc, .string dr] 48)).drew.heap[g]? = some (.cells #[.int .i64 k, .slice ao acc.length cap] 28 (0, 0)) := keepB hbA hgs s5
                  have cg0 : wa.drew.cell? ⟨g, 1, none⟩ = some (.slice ao acc.length cap) := c2
                  have cg1 := (two_of s5a).2
                  have hvl : ∀ b, (Value.slice ao acc.length cap).ownBlock = some b → g + 1 ≤ b := fun b e => (s6.lt b e).1
                  have hza : (wa.alloc (.cells #[.int .i64 dc, .string dr] 48)).drew.heap.size = wa.heap.size + 1 := by
                    show (wa.alloc _).heap.size = _
                    simp
                  have HB5 : Hid (∀ w' : World, (wa.alloc (.cells #[.int .i64 dc, .string dr] 48)).drew.grownBy w' (Value.slice ao acc.length cap).ownBlock → w'.heap[g]? = some (.cells #[.int .i64 k, .slice ao acc.length cap] 28 (0, 0))) :=
                    fun w' hg => (hg.block g (by omega) (fun e => by have := hvl g e.symm; omega)).trans s5a
                  have HS2 : Hid (∀ w' : World, (wa.alloc (.cells #[.int .i64 dc, .string dr] 48)).drew.grownBy w' (Value.slice ao acc.length cap).ownBlock → (w'.cell? ⟨bx, 0, none⟩ = some (.int .i64 dc) ∧ w'.cell? ⟨bx, 1, none⟩ = some (.string dr)) ∧ ∀ v, (w'.setCell ⟨g, 1, none⟩ v).cell? ⟨bx, 0, none⟩ = some (.int .i64 dc) ∧ (w'.setCell ⟨g, 1, none⟩ v).cell? ⟨bx, 1, none⟩ = some (.string dr)) :=
                    fun w' hg => by
                      have hne : some bx ≠ (Value.slice ao acc.length cap).ownBlock := fun e => by have := hvx bx e.symm; omega
                      have h0 := hg.cell hS1.1 hne
                      have h1 := hg.cell hS1.2 hne
                      have hng : bx ≠ g := by omega
                      exact ⟨⟨h0, h1⟩, fun v => ⟨by rw [cell_same (w := w') (heap_setCell_other w' ⟨g, 1, none⟩ bx v hng)]; exact h0, by rw [cell_same (w := w') (heap_setCell_other w' ⟨g, 1, none⟩ bx v hng)]; exact h1⟩⟩
                  have hu26 := Tryd.underlying26
                  have hlen : acc.length ≤ 20000 := by omega
                  have hbs : g + 1 ≤ (wa.alloc (.cells #[.int .i64 dc, .string dr] 48)).drew.heap.size := by omega
                  clear c1 c2 f1 f2 x1 x2 hbA s5a hvl hza
                  go_region_law
                    (first
                      | (refine step_append_lies _ rfl (.tmp 79) (.tmp 81) 26 rfl (g + 1) 48 ip _ 2 24 hu26 hip hz0 hz1 hz2 rfl (by decide) _ acc.length (primCells acc) (by simp [Act.eval, Act.put]) hO.out ⟨wa.heap.size, 0, none⟩ 1 1 [.int .i64 dc, .string dr] (by simp [Act.eval, Act.put]) rfl hNw.out (by intro u hu; simp at hu; rcases hu with rfl | rfl <;> rfl) (by decide) (by unfold maxLen; omega) (by omega) hbs _ rfl ?_; intro g' cap' w' hown hgrow hat hlt; have hS2 := HS2.out w' hgrow; obtain ⟨z1, z2⟩ := free_two (HB5.out w' hgrow); obtain ⟨z3, z4⟩ := two_of (HB5.out w' hgrow)))
                  all_goals
                    go_wp2
                    have hzz : (wa.alloc (.cells #[.int .i64 dc, .string dr] 48)).drew.heap.size = wa.heap.size + 1 := by
                      show (wa.alloc _).heap.size = _
                      simp
                    have hgw : wa.grownBy w' (Value.slice ao acc.length cap).ownBlock := gtrans (gdrew (galloc wa _ _)) hgrow
                    have hpush := GSt.push HS.out (by unfold maxLen; omega) hown hgw
                    have hrw : Row (w'.setCell ⟨g, 1, none⟩ (.slice (some ⟨g', 0, none⟩) (acc.length + 1) cap')) bP TT m (P.map fun z => Value.int .i64 z) :=
                      (hrow2.kept hgw (by
                        intro e
                        cases ea : ao with
                        | none => rw [ea] at e; cases e
                        | some b => rw [ea] at e; cases e; exact HAO.out b ea rfl)).of_block (heap_setCell_other w' ⟨g, 1, none⟩ bP _ (by dsimp only; omega))
                    have hao2 : ∀ b : Addr, some (⟨g', 0, none⟩ : Addr) = some b → b.block ≠ bP := by
                      intro b e
                      cases e
                      dsimp only
                      rcases hat with h | h
                      · cases ea : ao with
                        | none => rw [ea] at h; cases h
                        | some b => rw [ea] at h; cases h; exact HAO.out b ea
                      · omega
                    have hts : (tt.extract nn tt.size).size ≤ maxLen - 2 := by
                      have := HTT.out
                      rw [ByteArray.size_extract]; omega
                    have HFI := Lib.hid hpush
                    have HRI := Lib.hid hrw
                    clear hpush hrw hown hgrow hgw
                    go_roundw
                    case rel =>
                      refine ⟨q + 1, tt.extract nn tt.size, acc ++ [(dc, dr)], some ⟨g', 0, none⟩, cap', by omega, by go_num, rfl, hts, by rw [List.length_append]; show acc.length + 1 ≤ _; omega, ?_, ?_, HRI.out, hao2⟩
                      · have := HF.out
                        rw [Int.toNat_natCast] at this
                        exact this
                      · rw [List.length_append]
                        exact HFI.out
                    case measure => simp [intOf]; omega
                · have hcb : (dc != c) = true := by simpa using hcc
                  have hge : grpE t = 7 := by rw [grp_marked HMO.out, HKT.out, HC.out, ← HT0.out]; exact HCC.out rfl hcc
                  have hgr : grpR t = ⟨#[]⟩ := by unfold grpR; rw [hge, if_pos (by decide)]
                  obtain ⟨p1, p2⟩ := HS.out.final
                  have HP : Hid (GrpPost t w (.returned (.tuple #[.agg #[.int .i64 k, .slice ao acc.length cap], .string ⟨#[]⟩, .int .i64 7])) ((wa.setCell ⟨w.heap.size, 0, none⟩ (.int .i64 k)).setCell ⟨w.heap.size, 1, none⟩ (.slice ao acc.length cap))) :=
                    ⟨p2, k, _, _, _, by rw [hge, hgr], fun h => by rw [hge] at h; cases h⟩
                  have HQ := Lib.hid (two_put s4 (.int .i64 k) (.slice ao acc.length cap))
                  obtain ⟨d1, d2⟩ := two_of s4
                  obtain ⟨f1, f2⟩ := free_two s4
                  obtain ⟨c1, c2⟩ := two_of s5
                  obtain ⟨x1, x2⟩ := hbox
                  clear s1 s2 s3 s4 s5 s6 p1 p2 hge hgr hrow2 hcc
                  go_wp2
                  refine bodyPost_ret ?_ ?_ HP.out
                  · have q0 := HQ.out.1
                    have q1 := HQ.out.2
                    simp [results, Tryd.results43, go_sem, q0, q1]
                  · rfl
              · have hden : (de != 0) = true := by simpa using he0
                have hge : grpE t = de := by rw [grp_marked HMO.out, HKT.out, HC.out, ← HT0.out]; exact HE.out he0
                have hgr : grpR t = ⟨#[]⟩ := by unfold grpR; rw [hge, if_pos he0]
                obtain ⟨p1, p2⟩ := HS.out.final
                have HP : Hid (GrpPost t w (.returned (.tuple #[.agg #[.int .i64 k, .slice ao acc.length cap], .string ⟨#[]⟩, .int .i64 de])) ((wa.setCell ⟨w.heap.size, 0, none⟩ (.int .i64 k)).setCell ⟨w.heap.size, 1, none⟩ (.slice ao acc.length cap))) :=
                  ⟨p2, k, _, _, _, by rw [hge, hgr], fun h => absurd (hge ▸ h) he0⟩
                have HQ := Lib.hid (two_put s4 (.int .i64 k) (.slice ao acc.length cap))
                obtain ⟨d1, d2⟩ := two_of s4
                obtain ⟨f1, f2⟩ := free_two s4
                obtain ⟨c1, c2⟩ := two_of s5
                clear s1 s2 s3 s4 s5 s6 p1 p2 hge hgr hrow2 hbox he0
                go_wp2
                refine bodyPost_ret ?_ ?_ HP.out
                · have q0 := HQ.out.1
                  have q1 := HQ.out.2
                  simp [results, Tryd.results43, go_sem, q0, q1]
                · rfl
            · obtain rfl : q = m := by omega
              have hdz : P.drop q = [] := by rw [HMM.out]; exact List.drop_length
              rw [hdz, List.nil_append, show n - j - 1 = n - (j + 1) by omega] at hfar
              have HF := Lib.hid hfar
              have HS := Lib.hid hst
              have HTT := Lib.hid htt
              clear hdz hfar hst htt hrow hao
              go_wp2
              go_roundw
              case rel => exact ⟨j + 1, tt, acc, ao, cap, by omega, by go_num, rfl, HTT.out, by omega, HF.out, HS.out⟩
              case measure => simp [intOf]; omega
        · obtain rfl : j = n := by omega
          have hf := HF.out
          rw [Nat.sub_self] at hf
          obtain ⟨g1, g2, g3⟩ := far_end (show Far _ _ _ [] _ from hf)
          obtain ⟨p1, p2⟩ := HS.out.final
          have hge : grpE t = 0 := by rw [grp_marked HMO.out, HKT.out, HC.out, ← HT0.out]; exact g1
          have hgr : grpR t = tt := by unfold grpR; rw [hge, if_neg (by decide), HKT.out, HC.out, ← HT0.out]; exact g3
          have hgi : grpItems t = acc := by unfold grpItems; rw [HKT.out, HC.out, ← HT0.out]; exact g2
          have HP : Hid (GrpPost t w (.returned (.tuple #[.agg #[.int .i64 k, .slice ao acc.length cap], .string tt, .int .i64 0])) ((wr.setCell ⟨w.heap.size, 0, none⟩ (.int .i64 k)).setCell ⟨w.heap.size, 1, none⟩ (.slice ao acc.length cap))) :=
            ⟨p2, k, _, _, _, by rw [hge, hgr], fun _ => ⟨HKT.out.symm, by rw [hgi]; exact p1, fun b e => by obtain ⟨-, h2, -, -, -, ho, -⟩ := HS.out; have := (ho.lt b e).1; omega⟩⟩
          have q := two_put s4 (.int .i64 k) (.slice ao acc.length cap)
          have HQ := Lib.hid q
          clear q p1 p2 hge hgr hgi g1 g2 g3 hf s1 s2 s5
          obtain ⟨d1, d2⟩ := two_of s4
          go_wp2
          refine bodyPost_ret ?_ ?_ HP.out
          · have q0 := HQ.out.1
            have q1 := HQ.out.2
            simp [results, Tryd.results43, go_sem, q0, q1]
          · rfl
/-- Group, whatever the text. -/
theorem rgroup_any (t : ByteArray) (w : World) (hm : t.size ≤ maxLen - 2) : Calls Tryd.prog 43 #[.string t] w (GrpPost t w) := by
  cases hmo : markOk t with
  | false => exact rgrp_unmarked t w hmo
  | true =>
    have h := hmo
    unfold markOk at h
    simp only [Bool.and_eq_true, decide_eq_true_eq] at h
    exact rgrp_good t w hm h.1.1.1 h.1.1.2 hmo

end Go.Proofs.YtdmgmfdmakheiaaDoor
