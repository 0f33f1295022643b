/- The walk of the statement PrimitiveActs: whatever comes in, all functions of primitive return what the document says, provided that both tables read as the program lays them. -/
import Derived.Test.YteammnfdhdhefaaDoorPback
namespace Go.Proofs.YteammnfdhdhefaaDoor
open Go.ChangeShapes Go.WideShapes Go.ChangeAt Go.RowKit
set_option linter.unusedVariables false
set_option linter.unusedSimpArgs false

theorem NumsB.up {B C : Nat} {w w' : World} {a : Option Addr} {len cap : Nat} {zs : List Int} (h : NumsB B w a len cap zs) (hBC : B ≤ C) (hb : Below B w w') : NumsB C w' a len cap zs := by
  obtain ⟨h1, h2, h3, h4⟩ := h.same hb.block
  exact ⟨h1, h2, fun i hi => by obtain ⟨b, off, e, hbB, hc⟩ := h3 i hi; exact ⟨b, off, e, by omega, hc⟩, h4⟩
theorem two_keepG {w w' : World} {g h : Nat} {u v : Value} (hg : w.grownBy w' (some g)) (hne : h ≠ g) (hl : h < w.heap.size) (hc : w.cell? ⟨h, 0, none⟩ = some u ∧ w.cell? ⟨h, 1, none⟩ = some v) : w'.cell? ⟨h, 0, none⟩ = some u ∧ w'.cell? ⟨h, 1, none⟩ = some v := by
  have hb := hg.block h hl (by intro e; cases e; exact hne rfl)
  exact ⟨by rw [← hc.1]; simp only [World.cell?, hb], by rw [← hc.2]; simp only [World.cell?, hb]⟩
theorem codeV_parts (c : Int) : codeV c = .tuple #[.string ⟨(codeL c.toNat).toArray⟩, .bool (decide (1 ≤ c ∧ c ≤ 8))] := by
  unfold codeV
  by_cases h : 1 ≤ c ∧ c ≤ 8
  · rw [if_pos h, decide_eq_true h]
  · rw [if_neg h, decide_eq_false h, codeL_out (out_nat (by omega))]
theorem primS_size (c : Int) (raw : ByteArray) : (primS c raw).size ≤ 836 := by
  unfold primS
  by_cases h : (1 ≤ c ∧ c ≤ 8) ∧ raw.size = rawN c.toNat
  · rw [if_pos h]
    have hp : IsPrim c.toNat raw := ⟨by omega, by omega, h.2⟩
    show (txt c.toNat raw).size ≤ 836
    rw [hp.txt_size]
    exact (size_four c.toNat hp.c1 hp.c8).2.2.1
  · rw [if_neg h]; decide
theorem rprim_parts (c : Int) (raw : ByteArray) (w : World) (hr : raw.size ≤ maxLen - 2) : Calls Tryd.prog 13 #[.agg #[.int .i64 c, .string raw]] w fun e w' => e = .returned (.tuple #[.string (primS c raw), .int .i64 (primE c raw)]) ∧ Below w.heap.size w w' := by
  rw [← primV_parts]; exact rprim_any c raw w hr

set_option maxHeartbeats 4000000 in
set_option maxRecDepth 100000 in
theorem acts3_walk (a : Option Addr) (len cap : Nat) (zs : List Int) (rc : Int) (rr text : ByteArray) (at_ by_ code : Int) (w : World) (hn : NumsB w.heap.size w a len cap zs) (hrm : rr.size ≤ 2000) (htm : text.size ≤ 2000) (h500 : (len : Int) ≤ 500)
    (a1 : -9223372036854775808 ≤ at_) (a2 : at_ ≤ 9223372036854775807) (c1 : -9223372036854775808 ≤ code) (c2 : code ≤ 9223372036854775807) (hT : Tab w) (hL : Lay w) :
    Calls Tryd.prog 3 #[.slice a len cap, .agg #[.int .i64 rc, .string rr], .string text, .int .i64 at_, .int .i64 by_, .int .i64 code] w fun e w' => e = .returned (.bool true) ∧ Below w.heap.size w w' := by
  have AW := Lib.hid (fun (wx : World) (hx : Lay wx) => awake3_any wx hx)
  have LI := Lib.hid (fun wx : World => light_any a len cap wx)
  rw [decide_eq_true h500] at LI
  have b0 := (Below.refl w.heap.size w).alloc (o := .cells #[.int .i64 rc, .string rr] 24) (Nat.le_refl _)
  have g0 : w.heap.size < (w.alloc (.cells #[.int .i64 rc, .string rr] 24)).heap.size := by simp
  have RO := Lib.hid (roll_any a len cap zs _ (hn.up (Nat.le_of_lt g0) b0))
  rw [show (w.alloc (.cells #[.int .i64 rc, .string rr] 24)).heap.size = w.heap.size + 1 by simp] at RO
  have hR0 := two_new w (.int .i64 rc) (.string rr) 24
  have hrm' : ¬ (2000 : Int) < (rr.size : Int) := by omega
  have htm' : ¬ (2000 : Int) < (text.size : Int) := by omega
  have hLT := hL.lt
  have hTT := hT.lt
  have HL := Lib.hid hL
  have HT := Lib.hid hT
  clear hL hT hn h500
  obtain ⟨k8, hk8⟩ : ∃ k : Nat, code % 8 = (k : Int) := ⟨(code % 8).toNat, by omega⟩
  obtain ⟨k11, hk11⟩ : ∃ k : Nat, code % 11 = (k : Int) := ⟨(code % 11).toNat, by omega⟩
  have M8 := fun wx : World => mod_any code 8 wx (by decide) (by decide) c1 c2
  rw [show ((8 : Nat) : Int) = 8 from rfl, hk8] at M8
  have M11 := fun wx : World => mod_any code 11 wx (by decide) (by decide) c1 c2
  rw [show ((11 : Nat) : Int) = 11 from rfl, hk11] at M11
  have M8' := Lib.hid M8
  have M11' := Lib.hid M11
  have hk8b : k8 ≤ 7 := by omega
  have hk11b : k11 ≤ 10 := by omega
  clear M8 M11 hk8 hk11 c1 c2
  go_enter Tryd.func3, Tryd.ntmps3
  go_upto_region 5 with (first
    | (go_at_call 9; (with_reducible refine (LI.out _).mono ?_); rintro e w3 ⟨rfl, rfl⟩)
    | (go_at_call 11; (with_reducible refine (RO.out).mono ?_); rintro e w1 ⟨rfl, hb1, hd1⟩)
    | (go_at_call 12; (with_reducible refine (prim_any _ _ _ hd1).mono ?_); rintro e wp ⟨⟨c, raw, c1', c8', hraw, rfl⟩, hgp, hdp⟩))
  have hR1 := two_keep hb1 (Nat.lt_succ_self _) hR0
  have hB1 := b0.trans (hb1.mono (Nat.le_succ _))
  have gs1 : w.heap.size < w1.heap.size := by have := hb1.size; simp at this; omega
  have hBp : Below w.heap.size w wp := gbelow hB1 hgp hB1.size (Nat.le_succ _)
  have hRp := two_keepG hgp (by omega) gs1 hR1
  have ba := (Below.refl wp.heap.size wp).alloc (o := .cells #[.int .i64 (c : Int), .string raw] 24) (Nat.le_refl _)
  have hRs0 : w.heap.size < wp.heap.size := Nat.lt_of_lt_of_le gs1 hgp.size
  have hR := two_keep ba hRs0 hRp
  have hB := hBp.trans (ba.mono hBp.size)
  have hP := two_new wp (.int .i64 (c : Int)) (.string raw) 24
  have hPs : wp.heap.size < (wp.alloc (.cells #[.int .i64 (c : Int), .string raw] 24)).heap.size := by simp
  have hRs := Nat.lt_of_lt_of_le hRs0 ba.size
  obtain ⟨W, hW⟩ : ∃ W, W = wp.alloc (.cells #[.int .i64 (c : Int), .string raw] 24) := ⟨_, rfl⟩
  rw [← hW] at hB hP hPs hR hRs
  rw [← hW]
  obtain ⟨p, hp⟩ : ∃ p, p = wp.heap.size := ⟨_, rfl⟩
  rw [← hp] at hP hPs
  rw [← hp]
  clear hW hp ba hRs0 hRp hR1 hB1 hBp hgp hdp hb1 hd1 LI RO b0 g0 hR0 gs1
  have RE0 := fun wx : World => rprim_parts (c : Int) raw wx (by unfold maxLen; omega)
  have hGz := primS_size (c : Int) raw
  obtain ⟨G, hG⟩ : ∃ G, G = primS (c : Int) raw := ⟨_, rfl⟩
  rw [← hG] at RE0 hGz
  have RE0' := Lib.hid RE0
  clear RE0 hG
  go_wp2_with (go_at_call 13; (with_reducible refine (RE0'.out _).mono ?_); rintro e wn ⟨rfl, hb⟩; replace hP := two_keep hb hPs hP; replace hPs := Nat.lt_of_lt_of_le hPs hb.size; replace hR := two_keep hb hRs hR; replace hRs := Nat.lt_of_lt_of_le hRs hb.size; replace hB := hB.trans (hb.mono hB.size); clear hb)
  -- the first loop: the two primitives
  have bq := (Below.refl wn.heap.size wn).alloc (o := .cells #[.int .i64 (c : Int), .string raw, .int .i64 rc, .string rr] 24) (Nat.le_refl _)
  have hE : ∀ j, j < 2 → ∃ (z : Int) (r : ByteArray), r.size ≤ 2000 ∧ (wn.alloc (.cells #[.int .i64 (c : Int), .string raw, .int .i64 rc, .string rr] 24)).cell? ⟨wn.heap.size, j * 2, none⟩ = some (.int .i64 z) ∧ (wn.alloc (.cells #[.int .i64 (c : Int), .string raw, .int .i64 rc, .string rr] 24)).cell? ⟨wn.heap.size, j * 2 + 1, none⟩ = some (.string r) := by
    intro j hj
    obtain rfl | rfl : j = 0 ∨ j = 1 := by omega
    · exact ⟨c, raw, by omega, by simp [go_sem], by simp [go_sem]⟩
    · exact ⟨rc, rr, hrm, by simp [go_sem], by simp [go_sem]⟩
  replace hP := two_keep bq hPs hP
  replace hPs := Nat.lt_of_lt_of_le hPs bq.size
  replace hB := hB.trans (bq.mono hB.size)
  have hbs : wn.heap.size < (wn.alloc (.cells #[.int .i64 (c : Int), .string raw, .int .i64 rc, .string rr] 24)).heap.size := by simp
  obtain ⟨wq, hwq⟩ : ∃ W, W = wn.alloc (.cells #[.int .i64 (c : Int), .string raw, .int .i64 rc, .string rr] 24) := ⟨_, rfl⟩
  rw [← hwq] at hE hP hPs hB hbs
  rw [← hwq]
  obtain ⟨bs, hbse⟩ : ∃ p, p = wn.heap.size := ⟨_, rfl⟩
  rw [← hbse] at hE hbs
  rw [← hbse]
  have HE := Lib.hid hE
  clear hwq hbse bq hR hRs hE RE0'
  go_loopw [79] (fun i wr => ∃ j : Nat, j ≤ 2 ∧ i = .int .i64 j ∧ Below w.heap.size w wr ∧ Below wq.heap.size wq wr) (fun i _ => 2 - (intOf i).toNat)
  case atStart => exact ⟨0, by omega, rfl, hB, Below.refl _ _⟩
  case round =>
    clear hB
    obtain ⟨j, hj, rfl, hB, hq⟩ := hrel
    by_cases hlt : j < 2
    · obtain ⟨z, r, hrz, e0, e1⟩ := HE.out j hlt
      have x0 := (hq.cell (p := ⟨bs, j * 2, none⟩) hbs).trans e0
      have x1 := (hq.cell (p := ⟨bs, j * 2 + 1, none⟩) hbs).trans e1
      have xs : bs < wr.heap.size := Nat.lt_of_lt_of_le hbs hq.size
      have EN := fun (wx : World) (hx : Lay wx) => yprim_any z r wx (by unfold maxLen; omega) hx
      have RE := fun wx : World => rprim_parts z r wx (by unfold maxLen; omega)
      have MK := fun (wx : World) (hx : Lay wx) => ymake_any z r wx (by unfold maxLen; omega) hx
      have RM := fun wx : World => rmake_any z r wx (by unfold maxLen; omega)
      obtain ⟨S, hS⟩ : ∃ S, S = primS z r := ⟨_, rfl⟩
      obtain ⟨E, hEe⟩ : ∃ E, E = primE z r := ⟨_, rfl⟩
      rw [← hS, ← hEe] at EN RE
      rw [← hS] at MK RM
      have EN' := Lib.hid EN
      have RE' := Lib.hid RE
      have MK' := Lib.hid MK
      have RM' := Lib.hid RM
      clear EN RE MK RM hS hEe e0 e1
      go_upto_region 9 with fail
      have ba := (Below.refl wr.heap.size wr).alloc (o := .cells #[.int .i64 z, .string r] 24) (Nat.le_refl _)
      have hP2 := two_new wr (.int .i64 z) (.string r) 24
      have hPs2 : wr.heap.size < (wr.alloc (.cells #[.int .i64 z, .string r] 24)).heap.size := by simp
      replace hB := hB.trans (ba.mono hB.size)
      replace hq := hq.trans (ba.mono hq.size)
      clear ba x0 x1
      go_upto_region 11 with (first
        | (go_at_call 14; (with_reducible refine (EN'.out _ (HL.out.below hLT hB)).mono ?_); rintro e wn ⟨rfl, hb⟩; replace hP2 := two_keep hb hPs2 hP2; replace hPs2 := Nat.lt_of_lt_of_le hPs2 hb.size; replace hq := hq.trans (hb.mono hq.size); replace hB := hB.trans (hb.mono hB.size); clear hb)
        | (go_at_call 13; (with_reducible refine (RE'.out _).mono ?_); rintro e wn ⟨rfl, hb⟩; replace hP2 := two_keep hb hPs2 hP2; replace hPs2 := Nat.lt_of_lt_of_le hPs2 hb.size; replace hq := hq.trans (hb.mono hq.size); replace hB := hB.trans (hb.mono hB.size); clear hb))
      have hBd := hB.drew
      have hqd := hq.drew
      have HLd := Lib.hid (HL.out.below hLT hBd)
      have hSd : wn.drew.cell? ⟨_, 0, none⟩ = _ ∧ wn.drew.cell? ⟨_, 1, none⟩ = _ := hP2
      go_region_held3 (fun w' => w'.cell? ⟨wr.heap.size, 0, none⟩ = some (.int .i64 z) ∧ w'.cell? ⟨wr.heap.size, 1, none⟩ = some (.string r)) (first | exact hP2 | exact hP3 | exact hP4)
        (first
          | (go_at_call 15; (with_reducible refine (MK'.out _ HLd.out).mono ?_); rintro e wa ⟨rfl, hba⟩; have hP3 := two_keep hba hPs2 hP2; have hPs3 := Nat.lt_of_lt_of_le hPs2 hba.size)
          | (go_at_call 16; (with_reducible refine (RM'.out _).mono ?_); rintro e wb ⟨rfl, hbb⟩; have hP4 := two_keep hbb hPs3 hP3))
      have hB4 := (hBd.trans (hba.mono hBd.size)).trans (hbb.mono (Nat.le_trans hBd.size hba.size))
      have hq4 := (hqd.trans (hba.mono hqd.size)).trans (hbb.mono (Nat.le_trans hqd.size hba.size))
      clear hBd hqd HLd hSd hba hbb hP2 hP3 hP4 hPs2 hPs3 hB hq
      go_wp2
      go_roundw
      case rel => exact ⟨j + 1, by omega, by go_num, hB4, hq4⟩
      case measure => simp [intOf]; omega
    · replace hP := two_keep hq hPs hP
      replace hPs := Nat.lt_of_lt_of_le hPs hq.size
      clear hq HE hbs
      have SP := Lib.hid (fun wx : World => spoil_any G at_ by_ wx (by omega) a1 a2)
      obtain ⟨m, hm⟩ : ∃ m : Nat, at_ % ((G.size + 1 : Nat) : Int) = (m : Int) := ⟨(at_ % ((G.size + 1 : Nat) : Int)).toNat, by have := Int.emod_nonneg at_ (b := ((G.size + 1 : Nat) : Int)) (by omega); omega⟩
      have hmG : m ≤ G.size := by have := Int.emod_lt_of_pos at_ (b := ((G.size + 1 : Nat) : Int)) (by omega); omega
      have MD := fun wx : World => mod_any at_ (G.size + 1) wx (by omega) (by omega) a1 a2
      rw [hm, show ((G.size + 1 : Nat) : Int) = (G.size : Int) + 1 by omega] at MD
      have MD' := Lib.hid MD
      have hm0 : (0 : Int) ≤ (m : Int) := by omega
      have hmG' : (m : Int) ≤ (G.size : Int) := by omega
      have hcat : ¬ 9223372036854775807 < G.size + text.size := by omega
      clear MD hm
      go_wp2_with (first
        | (go_at_call 17; (with_reducible refine (SP.out _).mono ?_); rintro e wn ⟨x, rfl, hxs, hb⟩; replace hP := two_keep hb hPs hP; replace hPs := Nat.lt_of_lt_of_le hPs hb.size; replace hB := hB.trans (hb.mono hB.size); clear hb)
        | (go_at_call 18; (with_reducible refine (MD'.out _).mono ?_); rintro e w3 ⟨rfl, rfl⟩))
      -- the second loop: the five texts
      obtain ⟨g4, hg4⟩ : ∃ g, g = G.extract 0 m := ⟨_, rfl⟩
      obtain ⟨g5, hg5⟩ : ∃ g, g = G ++ text := ⟨_, rfl⟩
      have hz4 : g4.size ≤ 3000 := by rw [hg4, ext_size _ _ _ (by omega) hmG]; omega
      have hz5 : g5.size ≤ 3000 := by rw [hg5, ByteArray.size_append]; omega
      rw [← hg4, ← hg5]
      have bq := (Below.refl wn.heap.size wn).alloc (o := .cells #[.string G, .string text, .string x, .string g4, .string g5] 9) (Nat.le_refl _)
      have hE : ∀ j, j < 5 → ∃ s : ByteArray, s.size ≤ 3000 ∧ (wn.alloc (.cells #[.string G, .string text, .string x, .string g4, .string g5] 9)).cell? ⟨wn.heap.size, j, none⟩ = some (.string s) := by
        intro j hj
        obtain rfl | rfl | rfl | rfl | rfl : j = 0 ∨ j = 1 ∨ j = 2 ∨ j = 3 ∨ j = 4 := by omega
        · exact ⟨G, by omega, by simp [go_sem]⟩
        · exact ⟨text, by omega, by simp [go_sem]⟩
        · exact ⟨x, by omega, by simp [go_sem]⟩
        · exact ⟨g4, hz4, by simp [go_sem]⟩
        · exact ⟨g5, hz5, by simp [go_sem]⟩
      replace hP := two_keep bq hPs hP
      replace hPs := Nat.lt_of_lt_of_le hPs bq.size
      replace hB := hB.trans (bq.mono hB.size)
      have hbs : wn.heap.size < (wn.alloc (.cells #[.string G, .string text, .string x, .string g4, .string g5] 9)).heap.size := by simp
      obtain ⟨wu, hwu⟩ : ∃ W, W = wn.alloc (.cells #[.string G, .string text, .string x, .string g4, .string g5] 9) := ⟨_, rfl⟩
      rw [← hwu] at hE hP hPs hB hbs
      rw [← hwu]
      obtain ⟨bs2, hbse⟩ : ∃ p, p = wn.heap.size := ⟨_, rfl⟩
      rw [← hbse] at hE hbs
      rw [← hbse]
      have HE := Lib.hid hE
      clear hwu hbse bq hE SP MD' hg4 hg5 hz4 hz5 hxs hm0 hmG' hcat hmG
      go_loopw [133] (fun i wr => ∃ j : Nat, j ≤ 5 ∧ i = .int .i64 j ∧ Below w.heap.size w wr ∧ Below wu.heap.size wu wr) (fun i _ => 5 - (intOf i).toNat)
      case atStart => exact ⟨0, by omega, rfl, hB, Below.refl _ _⟩
      case round =>
        clear hB
        obtain ⟨j2, hj2, rfl, hB, hq⟩ := hrel
        by_cases hlt2 : j2 < 5
        · obtain ⟨s, hsz, e0⟩ := HE.out j2 hlt2
          have x0 := (hq.cell (p := ⟨bs2, j2, none⟩) hbs).trans e0
          have xs : bs2 < wr.heap.size := Nat.lt_of_lt_of_le hbs hq.size
          have DE := fun (wx : World) (hx : Tab wx) (hy : Lay wx) => ydecp_any s wx (by unfold maxLen; omega) hx hy
          have RD := fun wx : World => rdecp_any s wx (by unfold maxLen; omega)
          rw [decP_parts] at DE RD
          have OP := fun (z : Int) (wx : World) (hx : Tab wx) (hy : Lay wx) => yopen_any z s wx (by unfold maxLen; omega) hx hy
          have RP := fun (z : Int) (wx : World) => ropen_any z s wx (by unfold maxLen; omega)
          have BI := fun (wx : World) (hx : Tab wx) => ybinary_any s wx (by unfold maxLen; omega) hx.lt hx
          have RB := fun wx : World => rbinary_any s wx (by unfold maxLen; omega)
          have TX := fun wx : World => ytext_any s wx (by unfold maxLen; omega)
          have RT := fun wx : World => rtext_any s wx (by unfold maxLen; omega)
          obtain ⟨qc, hqc⟩ : ∃ y, y = (decQ s).c := ⟨_, rfl⟩
          obtain ⟨qr, hqr⟩ : ∃ y, y = (decQ s).raw := ⟨_, rfl⟩
          obtain ⟨qn, hqn⟩ : ∃ y, y = (decQ s).n := ⟨_, rfl⟩
          obtain ⟨qe, hqe⟩ : ∃ y, y = (decQ s).e := ⟨_, rfl⟩
          rw [← hqc, ← hqr, ← hqn, ← hqe] at DE RD
          obtain ⟨ds, hds⟩ : ∃ y, y = decFS s.data.toList := ⟨_, rfl⟩
          obtain ⟨de, hde⟩ : ∃ y, y = decFE s.data.toList := ⟨_, rfl⟩
          obtain ⟨es, hes⟩ : ∃ y, y = encS s.data.toList := ⟨_, rfl⟩
          obtain ⟨ee, hee⟩ : ∃ y, y = encE s.data.toList := ⟨_, rfl⟩
          rw [← hds, ← hde] at BI RB
          rw [← hes, ← hee] at TX RT
          have DE' := Lib.hid DE
          have RD' := Lib.hid RD
          have OP' := Lib.hid OP
          have RP' := Lib.hid RP
          have BI' := Lib.hid BI
          have RB' := Lib.hid RB
          have TX' := Lib.hid TX
          have RT' := Lib.hid RT
          have hP2 := two_keep hq hPs hP
          have hPs2 := Nat.lt_of_lt_of_le hPs hq.size
          clear DE RD OP RP BI RB TX RT hqc hqr hqn hqe hds hde hes hee e0
          go_upto_region 18 with (go_at_call 19; (with_reducible refine (DE'.out _ (HT.out.below hTT hB) (HL.out.below hLT hB)).mono ?_); rintro e wn ⟨rfl, hb⟩; replace hP2 := two_keep hb hPs2 hP2; replace hPs2 := Nat.lt_of_lt_of_le hPs2 hb.size; replace hq := hq.trans (hb.mono hq.size); replace hB := hB.trans (hb.mono hB.size); clear hb)
          have ba := (Below.refl wn.heap.size wn).alloc (o := .cells #[.int .i64 qc, .string qr] 24) (Nat.le_refl _)
          have hA := two_new wn (.int .i64 qc) (.string qr) 24
          have hAs : wn.heap.size < (wn.alloc (.cells #[.int .i64 qc, .string qr] 24)).heap.size := by simp
          replace hP2 := two_keep ba hPs2 hP2
          replace hPs2 := Nat.lt_of_lt_of_le hPs2 ba.size
          replace hB := hB.trans (ba.mono hB.size)
          replace hq := hq.trans (ba.mono hq.size)
          clear ba
          go_upto_region 19 with (go_at_call 20; (with_reducible refine (RD'.out _).mono ?_); rintro e wk ⟨rfl, hb⟩; replace hP2 := two_keep hb hPs2 hP2; replace hPs2 := Nat.lt_of_lt_of_le hPs2 hb.size; replace hA := two_keep hb hAs hA; replace hAs := Nat.lt_of_lt_of_le hAs hb.size; replace hq := hq.trans (hb.mono hq.size); replace hB := hB.trans (hb.mono hB.size); clear hb)
          have ba := (Below.refl wk.heap.size wk).alloc (o := .cells #[.int .i64 qc, .string qr] 24) (Nat.le_refl _)
          have hD := two_new wk (.int .i64 qc) (.string qr) 24
          replace hP2 := two_keep ba hPs2 hP2
          replace hPs2 := Nat.lt_of_lt_of_le hPs2 ba.size
          replace hA := two_keep ba hAs hA
          replace hB := hB.trans (ba.mono hB.size)
          replace hq := hq.trans (ba.mono hq.size)
          clear ba
          go_upto_region 21 with fail
          obtain ⟨wl, hwl⟩ : ∃ W, W = wk.alloc (.cells #[.int .i64 qc, .string qr] 24) := ⟨_, rfl⟩
          rw [← hwl] at hP2 hPs2 hA hB hq hD
          rw [← hwl]
          clear hwl hA hD hAs
          go_region_held3 (fun w' => w'.cell? ⟨p, 0, none⟩ = some (.int .i64 (c : Int)) ∧ w'.cell? ⟨p, 1, none⟩ = some (.string raw)) (first | exact hP2 | exact two_keep ((Below.refl wl.heap.size wl).alloc (Nat.le_refl _) _) hPs2 hP2 | exact two_keep ((Below.refl wl.heap.size wl).drew.alloc (Nat.le_refl _) _) hPs2 hP2 | exact two_keep (((Below.refl wl.heap.size wl).alloc (Nat.le_refl _) _).drew) hPs2 hP2)
            (first | (go_at_call 18; (with_reducible refine (M8'.out _).mono ?_); rintro e wa ⟨rfl, rfl⟩))
          obtain ⟨z3, hz3⟩ : ∃ z, z = IntKind.i64.wrap (1 + (k8 : Int)) := ⟨_, rfl⟩
          rw [← hz3]
          have bq := ((Below.refl wl.heap.size wl).alloc (o := (.cells #[.int .i64 code, .int .i64 (c : Int), .int .i64 z3] 3)) (Nat.le_refl _)).drew
          have hE3 : ∀ j, j < 3 → ∃ z : Int, ((wl.alloc (.cells #[.int .i64 code, .int .i64 (c : Int), .int .i64 z3] 3)).drew).cell? ⟨wl.heap.size, j, none⟩ = some (.int .i64 z) := by
            intro j hj
            show ∃ z : Int, (wl.alloc (.cells #[.int .i64 code, .int .i64 (c : Int), .int .i64 z3] 3)).cell? ⟨wl.heap.size, j, none⟩ = some (.int .i64 z)
            obtain rfl | rfl | rfl : j = 0 ∨ j = 1 ∨ j = 2 := by omega
            · exact ⟨code, by simp [go_sem]⟩
            · exact ⟨(c : Int), by simp [go_sem]⟩
            · exact ⟨z3, by simp [go_sem]⟩
          replace hB := hB.trans (bq.mono hB.size)
          replace hq := hq.trans (bq.mono hq.size)
          have hbs3 : wl.heap.size < ((wl.alloc (.cells #[.int .i64 code, .int .i64 (c : Int), .int .i64 z3] 3)).drew).heap.size := by simp
          obtain ⟨wv, hwv⟩ : ∃ W, W = (wl.alloc (.cells #[.int .i64 code, .int .i64 (c : Int), .int .i64 z3] 3)).drew := ⟨_, rfl⟩
          rw [← hwv] at hE3 hB hq hbs3
          rw [← hwv]
          obtain ⟨bs3, hbse⟩ : ∃ p, p = wl.heap.size := ⟨_, rfl⟩
          rw [← hbse] at hE3 hbs3
          rw [← hbse]
          have HE3 := Lib.hid hE3
          clear hz3 hwv hbse bq hE3 hP2 hPs2
          go_wp2
          go_loopw [170] (fun i wr => ∃ j : Nat, j ≤ 3 ∧ i = .int .i64 j ∧ Below w.heap.size w wr ∧ Below wu.heap.size wu wr ∧ Below wv.heap.size wv wr) (fun i _ => 3 - (intOf i).toNat)
          case atStart => exact ⟨0, by omega, rfl, hB, hq, Below.refl _ _⟩
          case round =>
            clear hB hq
            obtain ⟨j3, hj3, rfl, hB, hq, hq3⟩ := hrel
            by_cases hlt3 : j3 < 3
            · obtain ⟨z, e0⟩ := HE3.out j3 hlt3
              have x1 := (hq3.cell (p := ⟨bs3, j3, none⟩) hbs3).trans e0
              have xs1 : bs3 < wr.heap.size := Nat.lt_of_lt_of_le hbs3 hq3.size
              have O1 := Lib.hid (OP'.out z)
              have O2 := Lib.hid (RP'.out z)
              obtain ⟨os, hos⟩ : ∃ y, y = opnS z s := ⟨_, rfl⟩
              obtain ⟨oe, hoe⟩ : ∃ y, y = opnE z s := ⟨_, rfl⟩
              rw [← hos, ← hoe] at O1 O2
              clear hos hoe e0
              go_wp2_with (first
                | (go_at_call 21; (with_reducible refine (O1.out _ (HT.out.below hTT hB) (HL.out.below hLT hB)).mono ?_); rintro e wn ⟨rfl, hb⟩; replace hq := hq.trans (hb.mono hq.size); replace hq3 := hq3.trans (hb.mono hq3.size); replace hB := hB.trans (hb.mono hB.size); clear hb)
                | (go_at_call 22; (with_reducible refine (O2.out _).mono ?_); rintro e wn ⟨rfl, hb⟩; replace hq := hq.trans (hb.mono hq.size); replace hq3 := hq3.trans (hb.mono hq3.size); replace hB := hB.trans (hb.mono hB.size); clear hb))
              go_roundw
              case rel => exact ⟨j3 + 1, by omega, by go_num, hB, hq, hq3⟩
              case measure => simp [intOf]; omega
            · clear hq3
              go_wp2_with (first
                | (go_at_call 23; (with_reducible refine (BI'.out _ (HT.out.below hTT hB)).mono ?_); rintro e wn ⟨rfl, hb⟩; replace hq := hq.trans (hb.mono hq.size); replace hB := hB.trans (hb.mono hB.size); clear hb)
                | (go_at_call 24; (with_reducible refine (RB'.out _).mono ?_); rintro e wn ⟨rfl, hb⟩; replace hq := hq.trans (hb.mono hq.size); replace hB := hB.trans (hb.mono hB.size); clear hb)
                | (go_at_call 25; (with_reducible refine (TX'.out _).mono ?_); rintro e wn ⟨rfl, hb⟩; replace hq := hq.trans (hb.mono hq.size); replace hB := hB.trans (hb.mono hB.size); clear hb)
                | (go_at_call 26; (with_reducible refine (RT'.out _).mono ?_); rintro e wn ⟨rfl, hb⟩; replace hq := hq.trans (hb.mono hq.size); replace hB := hB.trans (hb.mono hB.size); clear hb))
              go_roundw
              case rel => exact ⟨j2 + 1, by omega, by go_num, hB, hq⟩
              case measure => simp [intOf]; omega
        · clear hq HE hbs hP hPs
          go_wp2_with (go_at_call 18; (with_reducible refine (M11'.out _).mono ?_); rintro e w3 ⟨rfl, rfl⟩)
          -- the last loop: the two numbers
          have bq := (Below.refl wr.heap.size wr).alloc (o := (.cells #[.int .i64 code, .int .i64 ((k11 : Int) - 1)] 3)) (Nat.le_refl _)
          have hE4 : ∀ j, j < 2 → ∃ z : Int, (wr.alloc (.cells #[.int .i64 code, .int .i64 ((k11 : Int) - 1)] 3)).cell? ⟨wr.heap.size, j, none⟩ = some (.int .i64 z) := by
            intro j hj
            obtain rfl | rfl : j = 0 ∨ j = 1 := by omega
            · exact ⟨code, by simp [go_sem]⟩
            · exact ⟨(k11 : Int) - 1, by simp [go_sem]⟩
          replace hB := hB.trans (bq.mono hB.size)
          have hbs4 : wr.heap.size < (wr.alloc (.cells #[.int .i64 code, .int .i64 ((k11 : Int) - 1)] 3)).heap.size := by simp
          obtain ⟨wv, hwv⟩ : ∃ W, W = wr.alloc (.cells #[.int .i64 code, .int .i64 ((k11 : Int) - 1)] 3) := ⟨_, rfl⟩
          rw [← hwv] at hE4 hB hbs4
          rw [← hwv]
          obtain ⟨bs4, hbse⟩ : ∃ p, p = wr.heap.size := ⟨_, rfl⟩
          rw [← hbse] at hE4 hbs4
          rw [← hbse]
          have HE4 := Lib.hid hE4
          clear hwv hbse bq hE4
          go_loopw [240] (fun i wr => ∃ j : Nat, j ≤ 2 ∧ i = .int .i64 j ∧ Below w.heap.size w wr ∧ Below wv.heap.size wv wr) (fun i _ => 2 - (intOf i).toNat)
          case atStart => exact ⟨0, by omega, rfl, hB, Below.refl _ _⟩
          case round =>
            clear hB
            obtain ⟨j4, hj4, rfl, hB, hq⟩ := hrel
            by_cases hlt4 : j4 < 2
            · obtain ⟨z, e0⟩ := HE4.out j4 hlt4
              have x1 := (hq.cell (p := ⟨bs4, j4, none⟩) hbs4).trans e0
              have xs1 : bs4 < wr.heap.size := Nat.lt_of_lt_of_le hbs4 hq.size
              have CP := fun (wx : World) (hx : Lay wx) => ycode_any z wx hx
              have CR := fun wx : World => rcode_any z wx
              rw [codeV_parts] at CP CR
              have AP := fun (wx : World) (hx : Lay wx) => yraw_any z wx hx
              have AR := fun wx : World => rraw_any z wx
              have ZP := fun (wx : World) (hx : Lay wx) => ysizes_any z wx hx
              have ZR := fun wx : World => rsize_any z wx
              obtain ⟨cs, hcs⟩ : ∃ y : ByteArray, y = ⟨(codeL z.toNat).toArray⟩ := ⟨_, rfl⟩
              obtain ⟨cb, hcb⟩ : ∃ y, y = decide (1 ≤ z ∧ z ≤ 8) := ⟨_, rfl⟩
              obtain ⟨ra, hra⟩ : ∃ y, y = rawI z := ⟨_, rfl⟩
              obtain ⟨sa, hsa⟩ : ∃ y, y = sizeI z := ⟨_, rfl⟩
              rw [← hcs, ← hcb] at CP CR
              rw [← hra] at AP AR
              rw [← hsa] at ZP ZR
              have CP' := Lib.hid CP
              have CR' := Lib.hid CR
              have AP' := Lib.hid AP
              have AR' := Lib.hid AR
              have ZP' := Lib.hid ZP
              have ZR' := Lib.hid ZR
              clear CP CR AP AR ZP ZR hcs hcb hra hsa e0
              go_wp2_with (first
                | (go_at_call 27; (with_reducible refine (CP'.out _ (HL.out.below hLT hB)).mono ?_); rintro e wn ⟨rfl, hb⟩; replace hq := hq.trans (hb.mono hq.size); replace hB := hB.trans (hb.mono hB.size); clear hb)
                | (go_at_call 28; (with_reducible refine (CR'.out _).mono ?_); rintro e wn ⟨rfl, hb⟩; replace hq := hq.trans (hb.mono hq.size); replace hB := hB.trans (hb.mono hB.size); clear hb)
                | (go_at_call 29; (with_reducible refine (AP'.out _ (HL.out.below hLT hB)).mono ?_); rintro e wn ⟨rfl, hb⟩; replace hq := hq.trans (hb.mono hq.size); replace hB := hB.trans (hb.mono hB.size); clear hb)
                | (go_at_call 30; (with_reducible refine (AR'.out _).mono ?_); rintro e wn ⟨rfl, hb⟩; replace hq := hq.trans (hb.mono hq.size); replace hB := hB.trans (hb.mono hB.size); clear hb)
                | (go_at_call 31; (with_reducible refine (ZP'.out _ (HL.out.below hLT hB)).mono ?_); rintro e wn ⟨rfl, hb⟩; replace hq := hq.trans (hb.mono hq.size); replace hB := hB.trans (hb.mono hB.size); clear hb)
                | (go_at_call 32; (with_reducible refine (ZR'.out _).mono ?_); rintro e wn ⟨rfl, hb⟩; replace hq := hq.trans (hb.mono hq.size); replace hB := hB.trans (hb.mono hB.size); clear hb))
              go_roundw
              case rel => exact ⟨j4 + 1, by omega, by go_num, hB, hq⟩
              case measure => simp [intOf]; omega
            · clear hq HE4
              go_wp2_with (go_at_call 10; (with_reducible refine (AW.out _ (HL.out.below hLT hB)).mono ?_); rintro e wn ⟨rfl, hb⟩; replace hB := hB.trans (hb.mono hB.size); clear hb)
              go_ret
              exact ⟨rfl, hB⟩

end Go.Proofs.YteammnfdhdhefaaDoor
