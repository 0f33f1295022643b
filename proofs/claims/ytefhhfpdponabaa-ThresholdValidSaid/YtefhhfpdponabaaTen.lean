/- The document's Enough. -/
import Derived.Test.YtefhhfpdponabaaTvl
namespace Go.Proofs.Ytefhhfpdponabaa
open Go.ChangeShapes Go.WideShapes Go.ChangeAt Go.RowKit
set_option linter.unusedVariables false
set_option linter.unusedSimpArgs false

/-- A slice of numbers, below the block B. -/
def IntsAt (B : Nat) (w : World) (v : Value) (zs : List Int) : Prop :=
  ∃ (ao : Option Addr) (cap : Nat), v = .slice ao zs.length cap ∧ zs.length ≤ cap ∧ cap ≤ maxLen ∧ ∀ i z, zs[i]? = some z → ∃ g off, ao = some ⟨g, off, none⟩ ∧ g < B ∧ w.cell? ⟨g, off + i, none⟩ = some (.int .i64 z)
theorem IntsAt.below {B C : Nat} {w w' : World} {v : Value} {zs : List Int} (h : IntsAt B w v zs) (hb : Below C w w') (hC : B ≤ C) : IntsAt B w' v zs := by
  obtain ⟨ao, cap, h1, h2, h3, h5⟩ := h
  refine ⟨ao, cap, h1, h2, h3, fun i z e => ?_⟩
  obtain ⟨g, off, a1, a2, a3⟩ := h5 i z e
  exact ⟨g, off, a1, a2, (hb.cell (p := ⟨g, _, none⟩) (by show g < C; omega)).trans a3⟩
/-- The numbers of a list, as a set. -/
def inS (zs : List Int) (k : Nat) : Bool := zs.any fun z => z == (k : Int)
theorem inS_snoc (zs : List Int) (z : Int) (k : Nat) : inS (zs ++ [z]) k = (inS zs k || z == (k : Int)) := by
  unfold inS
  rw [List.any_append]
  simp
def inA (p : Nat → Bool) : List Value := (List.range 8).map fun k => .bool (p k)
theorem inA_length (p : Nat → Bool) : (inA p).length = 8 := by simp [inA]
theorem inA_get (p : Nat → Bool) (k : Nat) (hk : k < 8) : (inA p)[k]? = some (.bool (p k)) := by simp [inA, hk]
theorem inA_ext {p q : Nat → Bool} (h : ∀ i, i < 8 → p i = q i) : inA p = inA q := by
  unfold inA
  exact List.map_congr_left (fun i hi => by rw [h i (List.mem_range.1 hi)])
theorem inA_set {p q : Nat → Bool} (k : Nat) (hk : k < 8) (h : ∀ i, i < 8 → q i = (p i || i == k)) : (inA p).set k (.bool true) = inA q := by
  apply List.ext_getElem?
  intro i
  rw [List.getElem?_set, inA_length]
  by_cases e : k = i
  · subst e
    rw [if_pos rfl, if_pos hk, inA_get q k hk, h k hk]
    simp
  · rw [if_neg e]
    by_cases hi : i < 8
    · rw [inA_get p i hi, inA_get q i hi, h i hi, show (i == k) = false by simp; omega, Bool.or_false]
    · rw [List.getElem?_eq_none (by rw [inA_length]; omega), List.getElem?_eq_none (by rw [inA_length]; omega)]
theorem cnt_set {p q : Nat → Bool} (k : Nat) : ∀ n, k < n → p k = false → (∀ i, i < n → q i = (p i || i == k)) → cnt q n = cnt p n + 1
  | 0, h, _, _ => by omega
  | n + 1, h, hp, hq => by
    have e : ∀ r : Nat → Bool, cnt r (n + 1) = cnt r n + (if r n = true then 1 else 0) := fun r => by
      unfold cnt
      rw [List.range_succ, List.filter_append, List.length_append]
      congr 1
      by_cases hr : r n = true
      · rw [List.filter_cons_of_pos hr, if_pos hr]; rfl
      · rw [List.filter_cons_of_neg hr, if_neg hr]; rfl
    rw [e q, e p, hq n (by omega)]
    by_cases ek : k = n
    · subst ek
      rw [hp, cnt_ext (q := p) k (fun i hi => by rw [hq i (by omega), show (i == k) = false by simp; omega, Bool.or_false])]
      simp
    · rw [cnt_set k n (by omega) hp (fun i hi => hq i (by omega)), show (n == k) = false by simp; omega, Bool.or_false]
      omega
theorem pick_snoc (p : Nat → Bool) : ∀ (a : List FR) (f : FR) (k : Nat), pick p k (a ++ [f]) = pick p k a ++ (if p (k + a.length) = true then [f] else [])
  | [], f, k => by
    rw [List.nil_append]
    unfold pick pick
    simp
  | g :: a, f, k => by
    rw [List.cons_append]
    unfold pick
    rw [pick_snoc p a f (k + 1), List.length_cons, show k + 1 + a.length = k + (a.length + 1) by omega]
    split <;> rfl
def cellsF (l : List FR) : List Value := l.flatMap fun f => [.int .i64 f.1, .int .i64 f.2]
theorem cellsF_snoc (l : List FR) (f : FR) : cellsF (l ++ [f]) = cellsF l ++ [.int .i64 f.1, .int .i64 f.2] := by simp [cellsF]
theorem cellsF_get : ∀ (l : List FR) (j : Nat) (f : FR), l[j]? = some f → (cellsF l)[j * 2]? = some (.int .i64 f.1) ∧ (cellsF l)[j * 2 + 1]? = some (.int .i64 f.2)
  | [], j, f, h => by simp at h
  | g :: l, 0, f, h => by
    simp at h; subst h; exact ⟨rfl, rfl⟩
  | g :: l, j + 1, f, h => by
    have ih := cellsF_get l j f (by simpa using h)
    have e : cellsF (g :: l) = [.int .i64 g.1, .int .i64 g.2] ++ cellsF l := rfl
    rw [e, show (j + 1) * 2 = j * 2 + 2 by omega, show j * 2 + 2 + 1 = (j * 2 + 1) + 2 by omega]
    exact ⟨by rw [List.getElem?_append_right (by simp)]; simpa using ih.1, by rw [List.getElem?_append_right (by simp)]; simpa using ih.2⟩
theorem frs_of_own {w : World} {C T : Nat} {v : Value} {l : List FR} (h : w.ownsRow C T 2 v l.length (cellsF l)) (h64 : ∀ f ∈ l, in64 f.1 ∧ in64 f.2) : FrsAt w.heap.size w v l := by
  obtain ⟨hl, ⟨rfl, h0⟩ | ⟨g, cap, cur, rfl, hC, hh, hn, hm, hs, ht⟩⟩ := h
  · exact ⟨none, 0, by rw [h0], by omega, by unfold maxLen; omega, h64, fun i f e => by
      rw [List.getElem?_eq_none (by omega)] at e; cases e⟩
  · refine ⟨some ⟨g, 0, none⟩, cap, rfl, hn, hm, h64, fun i f e => ?_⟩
    have hi : i < l.length := by
      rcases Nat.lt_or_ge i l.length with h | h
      · exact h
      · rw [List.getElem?_eq_none h] at e; cases e
    obtain ⟨g0, g1⟩ := cellsF_get l i f e
    rw [← ht, List.getElem?_take] at g0 g1
    rw [if_pos (by omega)] at g0 g1
    refine ⟨g, 0, rfl, lt_of_block hh, ?_, ?_⟩
    · simp only [World.cell?, hh]
      simpa using g0
    · simp only [World.cell?, hh]
      simpa using g1
theorem Try.infoF : (Try.prog.info? 39).map (fun i => (i.zero, i.size, i.bytes)) = some (some (.agg #[.int .i64 0, .int .i64 0]), 2, 16) := by kernel_rfl
theorem own_form2 {w : World} {B e n size : Nat} {v : Value} {xs : List Value} (h : w.ownsRow B e size v n xs) : ∃ ao cap, v = .slice ao n cap ∧ n ≤ cap ∧ cap ≤ maxLen := by
  rcases h.2 with ⟨rfl, rfl⟩ | ⟨g, cap, cur, rfl, _, _, h1, h2, _⟩
  · exact ⟨none, 0, rfl, Nat.le_refl _, Nat.zero_le _⟩
  · exact ⟨_, cap, rfl, h1, h2⟩
set_option maxHeartbeats 1600000 in
set_option maxRecDepth 100000 in
theorem renough13_any (B : Nat) (num : Int) (v sv : Value) (ws : List (List FR)) (zs : List Int) (w : World) (hv : FrssAt B w v ws) (hz : IntsAt B w sv zs) (hB : B ≤ w.heap.size) (h8 : lenL ws ≤ 8) (hws : ws.length ≤ 1000000) (hzs : zs.length ≤ 1000000) : Calls Try.prog 22 #[.agg #[.int .i64 num, v], sv] w fun e w' => e = .returned (.bool (enB num ws (inS zs))) ∧ Below w.heap.size w w' := by
  obtain ⟨ao, cap, rfl, hcl, hcm, hcells⟩ := hv
  obtain ⟨zo, zcap, rfl, zcl, zcm, zcells⟩ := hz
  obtain ⟨R, hR⟩ : ∃ R, R = enB num ws (inS zs) := ⟨_, rfl⟩
  rw [← hR]
  have b0 := ((Below.refl w.heap.size w).alloc (o := .cells #[.int .i64 num, .slice ao ws.length cap] 25) (Nat.le_refl _)).alloc (o := .cells (inA fun _ => false).toArray 59) (by simp)
  have a0 := (Arr.new w [.int .i64 num, .slice ao ws.length cap] 25).alloc (.cells (inA fun _ => false).toArray 59)
  have a1 := Arr.new2 w (.cells #[.int .i64 num, .slice ao ws.length cap] 25) (inA fun _ => false) 59
  have HR := Lib.hid hR
  have HC := Lib.hid hcells
  have HZ := Lib.hid zcells
  clear hR hcells zcells
  go_enter Try.func22, Try.ntmps22
  go_wp2
  go_loopw [6, 17] (fun n i wr => ∃ j : Nat, j ≤ zs.length ∧ i = .int .i64 j ∧ n = .int .i64 (cnt (inS (zs.take j)) 8 : Nat) ∧ Arr wr w.heap.size 25 [.int .i64 num, .slice ao ws.length cap] ∧ Arr wr (w.heap.size + 1) 59 (inA (inS (zs.take j))) ∧ Below w.heap.size w wr) (fun _ i _ => zs.length - (intOf i).toNat)
  case atStart => exact ⟨0, Nat.zero_le _, rfl, rfl, a0, a1, b0⟩
  case round =>
    clear a0 a1 b0
    obtain ⟨j, hj, rfl, rfl, hA, hI, hb⟩ := hrel
    have hbs := hb.size
    by_cases hlt : j < zs.length
    · obtain ⟨z, hzj⟩ : ∃ z, zs[j]? = some z := ⟨_, List.getElem?_eq_getElem hlt⟩
      obtain ⟨g, off, rfl, hg, c1⟩ := HZ.out j z hzj
      have d1 := (hb.cell (p := ⟨g, _, none⟩) (by show g < w.heap.size; omega)).trans c1
      have hsn : ∀ i : Nat, inS (zs.take (j + 1)) i = (inS (zs.take j) i || z == (i : Int)) := fun i => by rw [List.take_add_one, hzj]; exact inS_snoc _ _ _
      obtain ⟨p, hp⟩ : ∃ p, p = inS (zs.take j) := ⟨_, rfl⟩
      obtain ⟨p', hp'⟩ : ∃ p', p' = inS (zs.take (j + 1)) := ⟨_, rfl⟩
      rw [← hp] at hI hsn ⊢
      rw [← hp'] at hsn
      have HP' := Lib.hid hp'
      have hcn := cnt_le p 8
      clear hp hp' c1 hzj
      by_cases hz0 : 0 ≤ z
      · by_cases hz8 : z < 8
        · obtain ⟨k, rfl⟩ : ∃ k : Nat, z = (k : Int) := ⟨z.toNat, by omega⟩
          have hk : k < 8 := by omega
          have hq : ∀ i, i < 8 → p' i = (p i || i == k) := fun i _ => by
            rw [hsn i]; congr 1
            rw [Bool.eq_iff_iff, beq_iff_eq, beq_iff_eq]; omega
          have c2 := hI.cellAt (inA_get p k hk)
          cases hpk : p k with
          | true =>
            rw [hpk] at c2
            have e1 : inA p = inA p' := inA_ext (fun i hi => by
              rw [hq i hi]
              by_cases e : i = k
              · rw [e, hpk]; rfl
              · rw [show (i == k) = false by simp [e], Bool.or_false])
            have e2 : cnt p 8 = cnt p' 8 := cnt_ext 8 (fun i hi => by
              rw [hq i hi]
              by_cases e : i = k
              · rw [e, hpk]; rfl
              · rw [show (i == k) = false by simp [e], Bool.or_false])
            rw [e1] at hI
            have E2 := Lib.hid e2
            have HI := Lib.hid hI
            clear hq hsn e1 e2 hpk hI
            go_wp2
            go_roundw
            case rel => exact ⟨j + 1, by omega, by go_num, by rw [← HP'.out, E2.out], hA, by rw [← HP'.out]; exact HI.out, hb⟩
            case measure => simp [intOf]; omega
          | false =>
            rw [hpk] at c2
            have e1 := inA_set (p := p) (q := p') k hk hq
            have e2 : cnt p' 8 = cnt p 8 + 1 := cnt_set k 8 hk hpk hq
            have f2 := hI.free k
            have hI2 := hI.store k (.bool true)
            rw [e1] at hI2
            have hA2 := hA.beside ⟨w.heap.size + 1, k, none⟩ (.bool true) (by show w.heap.size ≠ w.heap.size + 1; omega)
            have hb2 := hb.setCell (p := ⟨w.heap.size + 1, k, none⟩) (by show w.heap.size ≤ w.heap.size + 1; omega) (.bool true)
            have E2 := Lib.hid e2
            have HI := Lib.hid hI2
            have HA := Lib.hid hA2
            have HB := Lib.hid hb2
            obtain ⟨c, hc⟩ : ∃ c, c = cnt p 8 := ⟨_, rfl⟩
            rw [← hc] at E2 hcn ⊢
            have hci : (c : Int) ≤ 8 := by omega
            clear hq hsn e1 e2 hpk hI hI2 hA hA2 hb2 hc
            go_wp2
            go_roundw
            case rel => exact ⟨j + 1, by omega, by go_num, by rw [← HP'.out, E2.out]; go_num, HA.out, by rw [← HP'.out]; exact HI.out, HB.out⟩
            case measure => simp [intOf]; omega
        · have e1 : inA p = inA p' := inA_ext (fun i hi => by rw [hsn i, show (z == (i : Int)) = false by simp; omega, Bool.or_false])
          have e2 : cnt p 8 = cnt p' 8 := cnt_ext 8 (fun i hi => by rw [hsn i, show (z == (i : Int)) = false by simp; omega, Bool.or_false])
          rw [e1] at hI
          have E2 := Lib.hid e2
          have HI := Lib.hid hI
          clear hsn e1 e2 hI
          go_wp2
          go_roundw
          case rel => exact ⟨j + 1, by omega, by go_num, by rw [← HP'.out, E2.out], hA, by rw [← HP'.out]; exact HI.out, hb⟩
          case measure => simp [intOf]; omega
      · have e1 : inA p = inA p' := inA_ext (fun i hi => by rw [hsn i, show (z == (i : Int)) = false by simp; omega, Bool.or_false])
        have e2 : cnt p 8 = cnt p' 8 := cnt_ext 8 (fun i hi => by rw [hsn i, show (z == (i : Int)) = false by simp; omega, Bool.or_false])
        rw [e1] at hI
        have E2 := Lib.hid e2
        have HI := Lib.hid hI
        clear hsn e1 e2 hI
        go_wp2
        go_roundw
        case rel => exact ⟨j + 1, by omega, by go_num, by rw [← HP'.out, E2.out], hA, by rw [← HP'.out]; exact HI.out, hb⟩
        case measure => simp [intOf]; omega
    · obtain rfl : j = zs.length := by omega
      rw [List.take_length] at hI ⊢
      obtain ⟨p, hp⟩ : ∃ p, p = inS zs := ⟨_, rfl⟩
      have hR := HR.out
      rw [← hp] at hI hR ⊢
      clear hp HR HZ hlt
      by_cases h0 : ws = []
      · subst h0
        unfold enB at hR
        rw [if_pos rfl] at hR
        have hR' : R = decide (num ≤ ((cnt p 8 : Nat) : Int)) := hR
        have HR := Lib.hid hR'
        have z1 : wr.cell? ⟨w.heap.size, 0, none⟩ = some (.int .i64 num) := hA.cellAt rfl
        have z2 : wr.cell? ⟨w.heap.size, 1, none⟩ = some (.slice ao ([] : List (List FR)).length cap) := hA.cellAt rfl
        clear hR hR' HC
        go_wp2
        go_ret
        exact ⟨by rw [HR.out]; rfl, hb⟩
      · have hR' : R = enL p 0 ws := by rw [hR]; unfold enB; rw [if_neg h0]
        have hli : ((ws.length : Int) == 0) = false := by simp only [beq_eq_false_iff_ne, ne_eq]; have := mt List.length_eq_zero_iff.1 h0; omega
        have HR := Lib.hid hR'
        have z1 : wr.cell? ⟨w.heap.size, 0, none⟩ = some (.int .i64 num) := hA.cellAt rfl
        have z2 : wr.cell? ⟨w.heap.size, 1, none⟩ = some (.slice ao ws.length cap) := hA.cellAt rfl
        clear hR hR' h0
        go_upto_region 14 with fail
        obtain ⟨cn, hcn⟩ : ∃ cn, cn = cnt p 8 := ⟨_, rfl⟩
        rw [← hcn]
        clear hcn z1 z2 hA hbs
        obtain ⟨i0, hi, hz0, hz1, hz2⟩ := info_parts Try.infoF
        have HI := Lib.hid (And.intro hi (And.intro hz0 (And.intro hz1 hz2)))
        clear hi hz0 hz1 hz2
        go_loopw [9, 49] (fun k i wr => ∃ j : Nat, j ≤ ws.length ∧ i = .int .i64 j ∧ k = .int .i64 (lenL (ws.take j) : Nat) ∧ Hid (R = enL p (lenL (ws.take j)) (ws.drop j)) ∧ Arr wr (w.heap.size + 1) 59 (inA p) ∧ Below w.heap.size w wr) (fun _ i _ => ws.length - (intOf i).toNat)
        case atStart => exact ⟨0, Nat.zero_le _, rfl, rfl, HR, hI, hb⟩
        case round =>
          clear hI hb HR
          obtain ⟨j, hj, rfl, rfl, HR, hI, hb⟩ := hrel
          have hbs := hb.size
          by_cases hlt : j < ws.length
          · obtain ⟨l, hl⟩ : ∃ l, ws[j]? = some l := ⟨_, List.getElem?_eq_getElem hlt⟩
            obtain ⟨g, off, u, rfl, hg, c1, hF⟩ := HC.out j l hl
            have d1 := (hb.cell (p := ⟨g, _, none⟩) (by show g < w.heap.size; omega)).trans c1
            have hF2 := hF.below hb hB
            have hF0 := hF2
            obtain ⟨fo, fcap, rfl, hfc, hfm, h64, fcells⟩ := hF2
            have hsn : lenL (ws.take (j + 1)) = lenL (ws.take j) + l.length := by rw [List.take_add_one, hl]; exact lenL_snoc _ _
            have h8' := lenL_take ws (j + 1)
            have hdr : ws.drop j = l :: ws.drop (j + 1) := by
              rw [List.drop_eq_getElem_cons hlt]
              congr 1
              rw [List.getElem?_eq_getElem hlt] at hl
              exact Option.some.inj hl
            have hR := HR.out
            rw [hdr] at hR
            unfold enL at hR
            obtain ⟨k0, hk0⟩ : ∃ k0, k0 = lenL (ws.take j) := ⟨_, rfl⟩
            rw [← hk0] at hR hsn ⊢
            rw [← hsn] at hR
            have hl8 : k0 + l.length ≤ 8 := by omega
            have HR1 := Lib.hid hR
            have HSN := Lib.hid hsn
            have HFC := Lib.hid fcells
            have H64 := Lib.hid h64
            clear c1 hl hF hF0 hdr hR HR hk0 hsn h8' fcells h64
            obtain ⟨W, hW⟩ : ∃ W, W = wr := ⟨_, rfl⟩
            rw [← hW] at d1 hI hb hbs HFC ⊢
            clear hW
            have hgB : w.heap.size + 1 < W.heap.size := hI.lt
            go_upto_region 18 with fail
            go_loopw [9, 12, 55] (fun k v i wi => ∃ (t : Nat) (vo : Option Addr) (vc : Nat), t ≤ l.length ∧ i = .int .i64 t ∧ k = .int .i64 (k0 + t : Nat) ∧ v = .slice vo (pick p k0 (l.take t)).length vc ∧ wi.ownsRow W.heap.size 39 2 (.slice vo (pick p k0 (l.take t)).length vc) (pick p k0 (l.take t)).length (cellsF (pick p k0 (l.take t))) ∧ Below W.heap.size W wi) (fun _ _ i _ => l.length - (intOf i).toNat)
            case atStart => exact ⟨0, none, 0, Nat.zero_le _, rfl, rfl, rfl, World.ownsRow_nil _ _ _ _, Below.refl _ _⟩
            case round =>
              obtain ⟨t, vo, vc, ht, rfl, rfl, rfl, hO, hbi⟩ := hrel
              have hIi := hI.below hbi hI.lt
              have hbis := hbi.size
              by_cases hlt2 : t < l.length
              · obtain ⟨f, hf⟩ : ∃ f, l[t]? = some f := ⟨_, List.getElem?_eq_getElem hlt2⟩
                obtain ⟨g2, off2, rfl, hg2, e1, e2⟩ := HFC.out t f hf
                have f1 := (hbi.cell (p := ⟨g2, _, none⟩) (by show g2 < W.heap.size; omega)).trans e1
                have f2 := (hbi.cell (p := ⟨g2, _, none⟩) (by show g2 < W.heap.size; omega)).trans e2
                have hkt : k0 + t < 8 := by omega
                have c3 := hIi.cellAt (inA_get p (k0 + t) hkt)
                have hpk := pick_snoc p (l.take t) f k0
                have htk : l.take (t + 1) = l.take t ++ [f] := by rw [List.take_add_one, hf]; rfl
                have hlt3 : (l.take t).length = t := by rw [List.length_take]; omega
                rw [← htk, hlt3] at hpk
                have hpl := pick_len p (l.take t) k0
                rw [hlt3] at hpl
                obtain ⟨k, hk⟩ : ∃ k, k = k0 + t := ⟨_, rfl⟩
                rw [← hk] at c3 hkt hpk ⊢
                have hki : (k : Int) < 8 := by omega
                have HK : Hid (k + 1 = k0 + (t + 1)) := Lib.hid (by omega)
                obtain ⟨P1, hP1⟩ : ∃ P1, P1 = pick p k0 (l.take t) := ⟨_, rfl⟩
                rw [← hP1] at hO hpk hpl ⊢
                have hOa := hO.alloc (.cells #[.int .i64 f.1, .int .i64 f.2] 39)
                have hba := hbi.alloc (o := .cells #[.int .i64 f.1, .int .i64 f.2] 39) hbis
                have c4 := (hIi.alloc (.cells #[.int .i64 f.1, .int .i64 f.2] 39)).cellAt (inA_get p k hkt)
                have hF := Arr.new wr [.int .i64 f.1, .int .i64 f.2] 39
                clear e1 e2 hlt3 hf htk hk hP1 hIi
                cases hpb : p k with
                | false =>
                  rw [hpb] at c3 c4 hpk
                  rw [if_neg (by decide), List.append_nil] at hpk
                  have HPK := Lib.hid hpk
                  clear hpb hpk
                  go_wp2
                  exact ⟨⟨t + 1, vo, vc, by omega, by go_num, by rw [← HK.out]; go_num, by rw [HPK.out], by rw [HPK.out]; exact hOa, hba⟩, by simp [intOf]; omega⟩
                | true =>
                  rw [hpb] at c3 c4 hpk
                  rw [if_pos rfl] at hpk
                  have HPK := Lib.hid hpk
                  have hPb : P1.length ≤ 8 := by omega
                  clear hpb hpk hO c3
                  go_upto_region 20 with fail
                  generalize wr.alloc (.cells #[.int .i64 f.1, .int .i64 f.2] 39) = wq at hOa hba c4 hF ⊢
                  generalize wr.heap.size = fb at hF ⊢
                  have y1 : wq.cell? ⟨fb, 0, none⟩ = some (.int .i64 f.1) := hF.cellAt rfl
                  have y2 : wq.cell? ⟨fb, 1, none⟩ = some (.int .i64 f.2) := hF.cellAt rfl
                  have HOA := Lib.hid hOa
                  have hbas := hba.size
                  clear hF hOa
                  go_wp2_with (at_builtin; refine wpList_append_own _ rfl (.tmp 62) (.tmp 64) 26 rfl W.heap.size 39 i0 (.agg #[.int .i64 0, .int .i64 0]) 2 16 Try.underlying26 HI.out.1 HI.out.2.1 HI.out.2.2.1 HI.out.2.2.2 rfl (by decide) _ P1.length _ rfl (HOA.out.alloc _) ⟨wq.heap.size, 0, none⟩ 1 1 [.int .i64 f.1, .int .i64 f.2] rfl rfl (cells_new _ _ _ _ rfl) (one2 _ _) (by unfold maxLen; omega) (by omega) (by simp; omega) ?_; intro v2 w4 hO2 hg2 _)
                  obtain ⟨a2, c2, rfl, -, -⟩ := own_form2 hO2
                  have hb4 := obelow (hba.alloc (o := .cells #[.int .i64 f.1, .int .i64 f.2] 39) hbas) (HOA.out.alloc _) hg2 (by simp; omega)
                  have hlen2 : (P1 ++ [f]).length = P1.length + 1 := by simp
                  rw [← cellsF_snoc, ← hlen2] at hO2
                  rw [← hlen2]
                  clear hg2
                  go_wp2
                  exact ⟨⟨t + 1, a2, c2, by omega, by go_num, by rw [← HK.out]; go_num, by rw [HPK.out], by rw [HPK.out]; exact hO2, hb4⟩, by simp [intOf]; omega⟩
              · obtain rfl : t = l.length := by omega
                rw [List.take_length] at hO ⊢
                have h64' : ∀ f ∈ pick p k0 l, in64 f.1 ∧ in64 f.2 := fun f hf => H64.out f (pick_mem p l k0 f hf)
                have hFr := frs_of_own hO h64'
                have ON := Lib.hid (rone_any wr.heap.size _ (pick p k0 l) wr hFr (Nat.le_refl _))
                have hbw := hb.trans (hbi.mono hbs)
                have hR := HR1.out
                rw [← HSN.out] 
                cases ho : oneB (pick p k0 l) with
                | false =>
                  rw [ho] at ON hR
                  rw [Bool.false_and] at hR
                  have HR2 := Lib.hid hR
                  clear hR HR1 ho hFr h64' hO hIi
                  go_wp2_with (go_at_call 28; (with_reducible refine ON.out.mono ?_); rintro e w1 ⟨rfl, hb1⟩)
                  go_ret
                  exact ⟨by rw [HR2.out]; rfl, hbw.trans (hb1.mono hbw.size)⟩
                | true =>
                  rw [ho] at ON hR
                  rw [Bool.true_and] at hR
                  have HR2 := Lib.hid hR
                  have HII := Lib.hid hIi
                  clear hR HR1 ho hFr h64' hO hIi
                  go_wp2_with (go_at_call 28; (with_reducible refine ON.out.mono ?_); rintro e w1 ⟨rfl, hb1⟩)
                  go_roundw
                  case rel => exact ⟨j + 1, by omega, by go_num, rfl, HR2, HII.out.below hb1 HII.out.lt, hbw.trans (hb1.mono hbw.size)⟩
                  case measure => simp [intOf]; omega
          · obtain rfl : j = ws.length := by omega
            have hR := HR.out
            rw [List.drop_length] at hR
            have HR2 : Hid (R = true) := Lib.hid hR
            clear hR HR
            go_wp2
            go_ret
            exact ⟨by rw [HR2.out]; rfl, hb⟩
end Go.Proofs.Ytefhhfpdponabaa
