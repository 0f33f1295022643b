/- The document's Encode of groups. Then: The document's Binary of groups, and its comparison of groups. -/
import Derived.Test.YtdmgmfdmakheiaaDoorSread
import Derived.Test.YtdmgmfdmakheiaaDoorSref
import Derived.Deep.DeepCutAuto
import Derived.Deep.RegionHeld3
import Derived.BigQuiet
namespace Go.Proofs.YtdmgmfdmakheiaaDoor
open Go.ChangeShapes Go.WideShapes Go.ChangeAt Go.RowKit
set_option linter.unusedVariables false
set_option linter.unusedSimpArgs false

theorem rprim_ps (c : Int) (raw : ByteArray) (w : World) (hr : raw.size ≤ maxLen - 2) : Calls Tryd.prog 35 #[.agg #[.int .i64 c, .string raw]] w fun e w' => e = .returned (.tuple #[.string (primS c raw), .int .i64 (primE c raw)]) ∧ Below w.heap.size w w' := by
  rw [← primV_parts]; exact rprim_any c raw w hr
set_option maxHeartbeats 4000000 in
set_option maxRecDepth 100000 in
theorem renc_any (vi : Value) (G : List Grp) (w : World) (hG : GroupsAt w.heap.size w vi G) (hlen : G.length ≤ 1000000) (hcnt : cntG G ≤ 1000000) : Calls Tryd.prog 13 #[vi] w fun e w' => e = .returned (.tuple #[.string (encGS G), .int .i64 (encGE G)]) ∧ Below w.heap.size w w' := by
  obtain ⟨ao, cap, rfl, hlc, hcm, hrd⟩ := hG
  unfold maxLen at hcm
  have b0 := Below.refl w.heap.size w
  have HRD := Lib.hid hrd
  obtain ⟨S, hS⟩ : ∃ S, S = encGS G := ⟨_, rfl⟩
  obtain ⟨E, hE⟩ : ∃ E, E = encGE G := ⟨_, rfl⟩
  rw [← hS, ← hE]
  have HS := Lib.hid hS
  have HE := Lib.hid hE
  have HCNT := Lib.hid hcnt
  clear hrd hS hE hcnt
  go_enter Tryd.func13, Tryd.ntmps13
  go_wp2
  go_loopw [4, 20] (fun n i wr => ∃ j : Nat, j ≤ G.length ∧ i = .int .i64 j ∧ n = .int .i64 (cntG (G.take j) : Nat) ∧ Below w.heap.size w wr) (fun _ i _ => G.length - (intOf i).toNat)
  case atStart => exact ⟨0, Nat.zero_le _, rfl, rfl, b0⟩
  case round =>
    clear b0
    obtain ⟨j, hj, rfl, rfl, hB⟩ := hrel
    by_cases hlt : j < G.length
    · obtain ⟨b, off, k, L, vj, hj', rfl, hbw, ce1, ce2, hp⟩ := HRD.out j hlt
      replace ce1 := (hB.cell (p := ⟨b, off + j * 2, none⟩) hbw).trans ce1
      replace ce2 := (hB.cell (p := ⟨b, off + j * 2 + 1, none⟩) hbw).trans ce2
      obtain ⟨ap, cp, rfl, hlp, hcp, _⟩ := hp
      have hst := cnt_step hj'
      have hci := cnt_item hj'
      have hcl := HCNT.out
      obtain ⟨c, hc⟩ : ∃ c, c = cntG (G.take j) := ⟨_, rfl⟩
      have HC := Lib.hid hc
      rw [← hc] at hst hci
      rw [← hc]
      have hcs : c + L.length ≤ 1000000 := by omega
      have HST := Lib.hid hst
      have rb := hB.alloc (o := .cells #[.int .i64 k, .slice ap L.length cp] 28) hB.size
      clear hc hst hci hcl hB
      go_wp2
      go_roundw
      case rel => exact ⟨j + 1, by omega, by go_num, by rw [HST.out]; go_num, rb⟩
      case measure => simp [intOf]; omega
    · obtain rfl : j = G.length := by omega
      rw [List.take_length]
      have hcl := HCNT.out
      obtain ⟨c, hc⟩ : ∃ c, c = cntG G := ⟨_, rfl⟩
      rw [← hc]
      rw [← hc] at hcl
      by_cases hov : 1024 < c
      · obtain ⟨r1, r2⟩ := enc_over (G := G) (by rw [← hc]; exact hov)
        have HR := Lib.hid (And.intro (HS.out.trans r1) (HE.out.trans r2))
        clear r1 r2 hc
        have hov' : (1024 : Int) < (c : Int) := by omega
        go_wp2
        go_ret2
        exact ⟨by rw [HR.out.1, HR.out.2]; rfl, hB⟩
      · have HN : Hid (¬ 1024 < cntG G) := by show _; rw [← hc]; exact hov
        have hov' : ¬ (1024 : Int) < (c : Int) := by omega
        clear hc hcl hov
        go_wp2
        go_loopw [34] (fun i wr => ∃ j : Nat, j ≤ G.length ∧ i = .int .i64 j ∧ Below w.heap.size w wr ∧ ∀ q, q < j → ∀ k L, G[q]? = some (k, L) → follL k L = true) (fun i _ => G.length - (intOf i).toNat)
        case atStart => exact ⟨0, Nat.zero_le _, rfl, hB, fun q hq => absurd hq (Nat.not_lt_zero _)⟩
        case round =>
          clear hB
          obtain ⟨j, hj, rfl, hB, hag⟩ := hrel
          have HA := Lib.hid hag
          clear hag
          by_cases hlt : j < G.length
          · obtain ⟨b, off, k, L, vj, hj', rfl, hbw, ce1, ce2, hp⟩ := HRD.out j hlt
            replace ce1 := (hB.cell (p := ⟨b, off + j * 2, none⟩) hbw).trans ce1
            replace ce2 := (hB.cell (p := ⟨b, off + j * 2 + 1, none⟩) hbw).trans ce2
            have hci := cnt_item hj'
            have hcl := HCNT.out
            have hll : L.length ≤ 1000000 := by omega
            have hp2 := hp
            obtain ⟨ap, cp, rfl, hlp, hcp, _⟩ := hp2
            have FO := Lib.hid (fun (wx : World) (h : Below w.heap.size w wx) => rfollows_any k _ L wx (hp.same h.block h.size) hll)
            have FJ := Lib.hid hj'
            obtain ⟨f, hf⟩ : ∃ f, f = follL k L := ⟨_, rfl⟩
            rw [← hf] at FO
            have HF := Lib.hid hf
            have rb := hB.alloc (o := .cells #[.int .i64 k, .slice ap L.length cp] 28) hB.size
            clear hj' hci hcl hll hf hp hB
            by_cases hft : f = true
            · subst hft
              go_wp2_with (go_at_call 34; (with_reducible refine (FO.out _ rb).mono ?_); rintro e wn ⟨rfl, hb⟩)
              go_roundw
              case rel =>
                refine ⟨j + 1, by omega, by go_num, rb.trans (hb.mono rb.size), fun q hq k' L' he => ?_⟩
                by_cases hqj : q < j
                · exact HA.out q hqj k' L' he
                · obtain rfl : q = j := by omega
                  rw [FJ.out] at he
                  cases he
                  exact HF.out.symm
              case measure => simp [intOf]; omega
            · have hff : f = false := by simpa using hft
              obtain ⟨r1, r2⟩ := enc_stray HN.out FJ.out (HF.out.symm.trans hff)
              have HR := Lib.hid (And.intro (HS.out.trans r1) (HE.out.trans r2))
              subst hff
              clear r1 r2 hft
              go_wp2_with (go_at_call 34; (with_reducible refine (FO.out _ rb).mono ?_); rintro e wn ⟨rfl, hb⟩)
              go_ret2
              exact ⟨by rw [HR.out.1, HR.out.2]; rfl, rb.trans (hb.mono rb.size)⟩
          · obtain rfl : j = G.length := by omega
            have HALL := Lib.hid (allF_of fun j k L hj he => HA.out j hj k L he)
            go_wp2
            go_loopw [9, 44] (fun v i wr => ∃ j : Nat, ∃ q : ByteArray, j ≤ G.length ∧ i = .int .i64 j ∧ v = .string q ∧ q.data.toList = grpsL (G.take j) ∧ Below w.heap.size w wr ∧ ∀ p, p < j → ∀ k L, G[p]? = some (k, L) → itemsE L = 0) (fun _ i _ => G.length - (intOf i).toNat)
            case atStart => exact ⟨0, ⟨#[]⟩, Nat.zero_le _, rfl, rfl, rfl, hB, fun q hq => absurd hq (Nat.not_lt_zero _)⟩
            case round =>
              clear hB
              obtain ⟨j, q, hj, rfl, rfl, hq, hB, hze⟩ := hrel
              have HZE := Lib.hid hze
              clear hze
              by_cases hlt : j < G.length
              · obtain ⟨b, off, k, L, vj, hj', rfl, hbw, ce1, ce2, hp⟩ := HRD.out j hlt
                replace ce1 := (hB.cell (p := ⟨b, off + j * 2, none⟩) hbw).trans ce1
                replace ce2 := (hB.cell (p := ⟨b, off + j * 2 + 1, none⟩) hbw).trans ce2
                have FJ := Lib.hid hj'
                have hci := cnt_item hj'
                have hcl := HN.out
                have hll : L.length ≤ 1024 := by omega
                have hfo : follL k L = true := HA.out j hlt k L hj'
                obtain ⟨hm0, hmk⟩ := foll_mark hfo hll
                have hgs := Lib.hid (grps_step hj')
                have HSZ := Lib.hid (fun i => enc_size hj' i)
                have hbd : 4 * G.length + 836 * cntG G ≤ 5000000 := by omega
                obtain ⟨m, hm⟩ : ∃ m, m = (permL k).length := ⟨_, rfl⟩
                have PM : Hid (∀ wx : World, Calls Tryd.prog 26 #[.int .i64 k] wx fun e w' => ∃ ao cap, e = .returned (.slice ao m cap) ∧ Below wx.heap.size wx w' ∧ m ≤ cap) := fun wx => (rperm_any k wx).mono fun e w' ⟨v, he, hb, ao, cap, hv, hc, _⟩ => ⟨ao, cap, by rw [he, hv, hm], hb, by rw [hm]; exact hc⟩
                rw [← hm] at hm0 hmk
                have hgs' := hgs.out
                rw [← hm] at hgs'
                obtain ⟨n, hn⟩ : ∃ n, n = L.length / m := ⟨_, rfl⟩
                have hqd : (L.length : Int).tdiv (m : Int) = (n : Int) := by rw [Int.tdiv_eq_ediv_of_nonneg (by omega), hn]; simp
                have hnl : n ≤ 1024 := by rw [hn]; exact Nat.le_trans (Nat.div_le_self _ _) hll
                rw [← hn] at hmk hgs'
                have MK0 := fun wx : World => rmark_any k (n : Int) wx
                rw [hmk] at MK0
                obtain ⟨M, hM⟩ : ∃ M, M = markL k (n : Int) := ⟨_, rfl⟩
                have hMl : M.length = 4 := by rw [hM]; exact markL_length _ _
                obtain ⟨ME, hME⟩ : ∃ e, e = markE k (n : Int) := ⟨_, rfl⟩
                rw [← hM, ← hME] at MK0
                rw [← hM] at hgs'
                have hss : (strL M).size = 4 := by show M.toArray.size = 4; simp [hMl]
                obtain ⟨MS, hMS⟩ : ∃ s, s = strL M := ⟨_, rfl⟩
                rw [← hMS] at MK0 hss
                have hw : IntKind.i64.wrap (n : Int) = (n : Int) := by rw [IntKind.wrap_i64]; omega
                have MK : Hid (∀ wx : World, Calls Tryd.prog 24 #[.int .i64 k, .int .i64 (IntKind.i64.wrap (n : Int))] wx fun e w' => e = .returned (.tuple #[.string MS, .int .i64 ME]) ∧ Below wx.heap.size wx w') := by rw [hw]; exact MK0
                have HMS := Lib.hid hMS
                have HGS := Lib.hid hgs'
                have hqs : q.size ≤ 5000000 := by
                  have h1 : q.size = q.data.toList.length := by simp
                  have := HSZ.out 0
                  rw [h1, hq]; omega
                have HQ := Lib.hid hq
                have HP := Lib.hid hp
                have HBD := Lib.hid hbd
                obtain ⟨ap, cp, rfl, hlp, hcp, _⟩ := hp
                have hmz : ((m : Int) == 0) = false := by simp; omega
                have rb := hB.alloc (o := .cells #[.int .i64 k, .slice ap L.length cp] 28) hB.size
                clear hj' hci hcl hfo hmk hgs hgs' hn hm MK0 hM hME hMS hq hbd hMl hB hw
                go_upto_region 19 with fail
                have k1 := two_new wr (.int .i64 k) (.slice ap L.length cp) 28
                have g1 : wr.heap.size < (wr.alloc (.cells #[.int .i64 k, .slice ap L.length cp] 28)).heap.size := by simp
                obtain ⟨wa, hwa⟩ : ∃ wa, wa = wr.alloc (.cells #[.int .i64 k, .slice ap L.length cp] 28) := ⟨_, rfl⟩
                rw [← hwa] at k1 g1 rb
                rw [← hwa]
                obtain ⟨g, hg⟩ : ∃ g, g = wr.heap.size := ⟨_, rfl⟩
                rw [← hg] at k1 g1
                rw [← hg]
                clear hwa hg ce1 ce2
                go_region_held3 (fun w' => w'.cell? ⟨g, 0, none⟩ = some (.int .i64 k) ∧ w'.cell? ⟨g, 1, none⟩ = some (.slice ap L.length cp)) (first | exact k1 | exact k2 | exact k3)
                  (first
                    | (go_at_call 26; (with_reducible refine (PM.out _).mono ?_); rintro e wb ⟨aq, cq, rfl, hbb, hcq⟩; have k2 := two_keep hbb g1 k1; have g2 := Nat.lt_of_lt_of_le g1 hbb.size)
                    | (go_at_call 24; (with_reducible refine (MK.out _).mono ?_); rintro e wc ⟨rfl, hbc⟩; have k3 := two_keep hbc g2 k2))
                have rd := rb.drew
                have hB2 := rd.trans (hbb.mono rd.size)
                have hB3 := hB2.trans (hbc.mono hB2.size)
                have hcat : ¬ 9223372036854775807 < q.size + MS.size := by omega
                clear rd hB2 hbb hbc rb g1 k1 k2 g2 hcq
                go_wp2
                go_loopw [9, 68] (fun v i wv => ∃ t : Nat, ∃ x : ByteArray, t ≤ L.length ∧ i = .int .i64 t ∧ v = .string x ∧ x.data.toList = grpsL (G.take j) ++ (M ++ itemsL (L.take t)) ∧ Below w.heap.size w wv ∧ ∀ p, p < t → ∀ c r, L[p]? = some (c, r) → primE c r = 0) (fun _ i _ => L.length - (intOf i).toNat)
                case atStart =>
                  refine ⟨0, _, Nat.zero_le _, rfl, rfl, ?_, hB3, fun q hq => absurd hq (Nat.not_lt_zero _)⟩
                  rw [ByteArray.data_append, Array.toList_append, HQ.out, HMS.out]
                  simp [itemsL, strL]
                case round =>
                  clear hB3 k3
                  obtain ⟨t, x, ht, rfl, rfl, hx, hB, hpe⟩ := hrel
                  have HPE := Lib.hid hpe
                  clear hpe
                  by_cases htl : t < L.length
                  · obtain ⟨ap', cp', e, _, _, h4⟩ := HP.out
                    cases e
                    obtain ⟨be, oe, z, r, hz, rfl, hbe, d1, d2, hrs⟩ := h4 t htl
                    clear h4
                    replace d1 := (hB.cell (p := ⟨be, oe + t * 2, none⟩) hbe).trans d1
                    replace d2 := (hB.cell (p := ⟨be, oe + t * 2 + 1, none⟩) hbe).trans d2
                    have FZ := Lib.hid hz
                    have PE0 := fun wx : World => rprim_ps z r wx hrs
                    have hst := items_step hz
                    have hps := primS_le z r
                    have hxs : x.size ≤ 5000000 := by
                      have h1 : x.size = x.data.toList.length := by simp
                      have h2 := HSZ.out t
                      have h3 := HBD.out
                      have h4 : M.length = 4 := by rw [HMS.out] at hss; have : (strL M).size = M.length := by show M.toArray.size = _; simp
                                                   omega
                      rw [h1, hx, List.length_append, List.length_append]; omega
                    obtain ⟨s, hs⟩ : ∃ s, s = primS z r := ⟨_, rfl⟩
                    obtain ⟨ee, hee⟩ : ∃ e, e = primE z r := ⟨_, rfl⟩
                    rw [← hs] at PE0 hst hps
                    rw [← hee] at PE0
                    have PE := Lib.hid PE0
                    have HST := Lib.hid hst
                    have HEE := Lib.hid hee
                    have HX := Lib.hid hx
                    have rb := hB.alloc (o := .cells #[.int .i64 z, .string r] 48) hB.size
                    have hcat2 : ¬ 9223372036854775807 < x.size + s.size := by omega
                    clear hz hst hs hee PE0 hx hB hrs
                    by_cases h0 : ee = 0
                    · subst h0
                      go_wp2_with (go_at_call 35; (with_reducible refine (PE.out _).mono ?_); rintro e wn ⟨rfl, hb⟩)
                      go_roundw
                      case rel =>
                        refine ⟨t + 1, _, by omega, by go_num, rfl, ?_, rb.trans (hb.mono rb.size), fun p hpt c' r' he => ?_⟩
                        · rw [ByteArray.data_append, Array.toList_append, HX.out, HST.out]
                          simp
                        · by_cases hqj : p < t
                          · exact HPE.out p hqj c' r' he
                          · obtain rfl : p = t := by omega
                            rw [FZ.out] at he
                            cases he
                            exact HEE.out.symm
                      case measure => simp [intOf]; omega
                    · have hen : (ee != 0) = true := by simpa using h0
                      obtain ⟨r1, r2⟩ := enc_bad HN.out HALL.out FJ.out HZE.out FZ.out HPE.out (by rw [← HEE.out]; exact h0)
                      rw [← HEE.out] at r2
                      have HR := Lib.hid (And.intro (HS.out.trans r1) (HE.out.trans r2))
                      clear r1 r2 h0
                      go_wp2_with (go_at_call 35; (with_reducible refine (PE.out _).mono ?_); rintro e wn ⟨rfl, hb⟩)
                      go_ret2
                      exact ⟨by rw [HR.out.1, HR.out.2]; rfl, rb.trans (hb.mono rb.size)⟩
                  · obtain rfl : t = L.length := by omega
                    rw [List.take_length, ← HGS.out] at hx
                    have HX := Lib.hid hx
                    clear hx
                    go_wp2
                    go_roundw
                    case rel =>
                      refine ⟨j + 1, x, by omega, by go_num, rfl, HX.out, hB, fun p hpj k' L' he => ?_⟩
                      by_cases hqj : p < j
                      · exact HZE.out p hqj k' L' he
                      · obtain rfl : p = j := by omega
                        rw [FJ.out] at he
                        cases he
                        exact items_zero fun p c r hp => HPE.out p (at_lt hp) c r hp
                    case measure => simp [intOf]; omega
              · obtain rfl : j = G.length := by omega
                obtain ⟨r1, r2⟩ := enc_good HN.out HALL.out (fun p k L he => HZE.out p (at_lt he) k L he)
                have HR := Lib.hid (And.intro (HS.out.trans r1) (HE.out.trans r2))
                rw [List.take_length] at hq
                have HQ := Lib.hid hq
                clear r1 r2 hq
                go_wp2
                go_ret2
                refine ⟨?_, hB⟩
                rw [HR.out.1, HR.out.2, ← HQ.out]
                rfl

end Go.Proofs.YtdmgmfdmakheiaaDoor

namespace Go.Proofs.YtdmgmfdmakheiaaDoor
open Go.ChangeShapes Go.WideShapes Go.ChangeAt Go.RowKit
set_option linter.unusedVariables false
set_option linter.unusedSimpArgs false

theorem encGS_size (G : List Grp) : (encGS G).size ≤ 4 * G.length + 856064 := by
  unfold encGS
  by_cases h1 : 1024 < cntG G
  · rw [if_pos h1]; exact Nat.zero_le _
  · rw [if_neg h1]
    by_cases h2 : allF G = false
    · rw [if_pos h2]; exact Nat.zero_le _
    · rw [if_neg h2]
      by_cases h3 : grpsE G ≠ 0
      · rw [if_pos h3]; exact Nat.zero_le _
      · rw [if_neg h3]
        have h := grps_le G
        have e : (strL (grpsL G)).size = (grpsL G).length := by show (grpsL G).toArray.size = _; simp
        rw [e]; omega
/-- What Binary returns. -/
def binGS (G : List Grp) : ByteArray := if encGE G ≠ 0 then ⟨#[]⟩ else decFS (encGS G).data.toList
def binGE (G : List Grp) : Int := if encGE G ≠ 0 then encGE G else decFE (encGS G).data.toList

set_option maxRecDepth 100000 in
theorem rbinG_any (vi : Value) (G : List Grp) (w : World) (hG : GroupsAt w.heap.size w vi G) (hlen : G.length ≤ 1000000) (hcnt : cntG G ≤ 1000000) : Calls Tryd.prog 15 #[vi] w fun e w' => e = .returned (.tuple #[.string (binGS G), .int .i64 (binGE G)]) ∧ Below w.heap.size w w' := by
  have EN0 := renc_any vi G w hG hlen hcnt
  obtain ⟨ao, cap, rfl, _, _, _⟩ := hG
  have hsz := encGS_size G
  have RB0 := fun wx : World => rbinary_any (encGS G) wx (by unfold maxLen; omega)
  unfold binGS binGE
  obtain ⟨S, hS⟩ : ∃ S, S = encGS G := ⟨_, rfl⟩
  obtain ⟨E, hE⟩ : ∃ E, E = encGE G := ⟨_, rfl⟩
  rw [← hS, ← hE] at EN0
  rw [← hS] at RB0
  rw [← hS, ← hE]
  obtain ⟨D, hD⟩ : ∃ D, D = decFS S.data.toList := ⟨_, rfl⟩
  obtain ⟨F, hF⟩ : ∃ D, D = decFE S.data.toList := ⟨_, rfl⟩
  rw [← hD, ← hF] at RB0
  rw [← hD, ← hF]
  have EN := Lib.hid EN0
  have RB := Lib.hid RB0
  clear EN0 RB0 hS hE hD hF hsz hlen hcnt
  by_cases h0 : E = 0
  · subst h0
    rw [if_neg (by decide), if_neg (by decide)]
    go_enter Tryd.func15, Tryd.ntmps15
    go_wp2_with (first
      | (go_at_call 13; (with_reducible refine (EN.out).mono ?_); rintro e w1 ⟨rfl, hb1⟩)
      | (go_at_call 37; (with_reducible refine (RB.out _).mono ?_); rintro e w2 ⟨rfl, hb2⟩))
    go_ret2
    exact ⟨rfl, hb1.trans (hb2.mono hb1.size)⟩
  · have hen : (E != 0) = true := by simpa using h0
    rw [if_pos h0, if_pos h0]
    clear h0
    go_enter Tryd.func15, Tryd.ntmps15
    go_wp2_with (first
      | (go_at_call 13; (with_reducible refine (EN.out).mono ?_); rintro e w1 ⟨rfl, hb1⟩))
    go_ret2
    exact ⟨rfl, hb1⟩

end Go.Proofs.YtdmgmfdmakheiaaDoor
