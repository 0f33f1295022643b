/- The program's Enough: a closure that counts the keys through all lists. -/
import Derived.Test.YtefhhfpdponabaaTpd
namespace Go.Proofs.Ytefhhfpdponabaa
open Go Go.Maps Go.ChangeShapes Go.WideShapes Go.ChangeAt Go.RowKit
set_option linter.unusedVariables false
set_option linter.unusedSimpArgs false

theorem grown_cellG {W a : World} {b : Nat} (h : W.grownBy a (some b)) (o : Nat) (v : Value) : W.grownBy (a.setCell ⟨b, o, none⟩ v) (some b) :=
  ⟨h.os, h.tape, h.output, by simpa [World.setCell] using h.size, fun i hi hne => (heap_setCell_other a ⟨b, o, none⟩ i v (show i ≠ b by intro e; exact hne (by rw [e]))).trans (h.block i hi hne)⟩
theorem cell_sameT {w w' : World} {b : Nat} (hb : w'.heap[b]? = w.heap[b]?) (o : Nat) : w'.cell? ⟨b, o, none⟩ = w.cell? ⟨b, o, none⟩ := by simp only [World.cell?, hb]
theorem FrsAt.grown {B kb : Nat} {w w' : World} {v : Value} {l : List FR} (h : FrsAt B w v l) (hg : w.grownBy w' (some kb)) (hk : B ≤ kb) (hB : B ≤ w.heap.size) : FrsAt B w' v l :=
  h.below (Below.mono (B := B) (⟨hg.os, hg.tape, hg.output, hg.size, fun j hj => hg.block j (by omega) (by intro e; cases e; omega)⟩ : Below B w w') (Nat.le_refl _)) (Nat.le_refl _)
set_option maxHeartbeats 1600000 in
set_option maxRecDepth 100000 in
theorem tkeyshort_any (B : Nat) (v : Value) (l : List FR) (p : Nat → Bool) (k0 ab kb m : Nat) (w : World) (hv : FrsAt B w v l) (hBk : B ≤ kb) (hpr : Arr w ab 57 [.map (some m)]) (hne : ab ≠ kb) (hmk : m ≠ kb) (hm : MemAt w m p) (hkey : Arr w kb 3 [.int .i64 (k0 : Nat)]) (hl8 : k0 + l.length ≤ 8) :
    Calls Try.prog 35 #[v, .pointer (some ⟨ab, 0, none⟩), .pointer (some ⟨kb, 0, none⟩)] w fun e w' => e = .returned (.bool (!oneB (pick p k0 l))) ∧ Arr w' kb 3 [.int .i64 (k0 + l.length : Nat)] ∧ w.grownBy w' (some kb) := by
  obtain ⟨fo, fcap, rfl, hfc, hfm, h64, fcells⟩ := hv
  have HFC := Lib.hid fcells
  have H64 := Lib.hid h64
  have HM := Lib.hid hm
  have hkl := hkey.lt
  have hal := hpr.lt
  have hml := hm.lt
  obtain ⟨i0, hi, hz0, hz1, hz2⟩ := info_parts Try.infoF
  have HI := Lib.hid (And.intro hi (And.intro hz0 (And.intro hz1 hz2)))
  clear hi hz0 hz1 hz2 fcells h64 hm
  go_enter Try.func35, Try.ntmps35
  go_upto_region 3 with fail
  go_loopw [5, 10] (fun v i wi => ∃ (t : Nat) (vo : Option Addr) (vc : Nat), t ≤ l.length ∧ i = .int .i64 t ∧ v = .slice vo (pick p k0 (l.take t)).length vc ∧ wi.ownsRow w.heap.size 39 2 (.slice vo (pick p k0 (l.take t)).length vc) (pick p k0 (l.take t)).length (cellsF (pick p k0 (l.take t))) ∧ Arr wi kb 3 [.int .i64 (k0 + t : Nat)] ∧ w.grownBy wi (some kb)) (fun _ i _ => l.length - (intOf i).toNat)
  case atStart => exact ⟨0, none, 0, Nat.zero_le _, rfl, rfl, World.ownsRow_nil _ _ _ _, hkey, ⟨rfl, rfl, rfl, Nat.le_refl _, fun _ _ _ => rfl⟩⟩
  case round =>
    clear hkey
    obtain ⟨t, vo, vc, ht, rfl, rfl, hO, hK, hG⟩ := hrel
    have hGs := hG.size
    by_cases hlt2 : t < l.length
    · obtain ⟨f, hf⟩ : ∃ f, l[t]? = some f := ⟨_, List.getElem?_eq_getElem hlt2⟩
      obtain ⟨g2, off2, rfl, hg2, e1, e2⟩ := HFC.out t f hf
      have f1 : wr.cell? ⟨g2, off2 + t * 2, none⟩ = some (.int .i64 f.1) := (cell_sameT (hG.block g2 (by omega) (by intro e; cases e; omega)) _).trans e1
      have f2 : wr.cell? ⟨g2, off2 + t * 2 + 1, none⟩ = some (.int .i64 f.2) := (cell_sameT (hG.block g2 (by omega) (by intro e; cases e; omega)) _).trans e2
      have hkt : k0 + t < 8 := by omega
      have hpk := pick_snoc p (l.take t) f k0
      have htk : l.take (t + 1) = l.take t ++ [f] := by rw [List.take_add_one, hf]; rfl
      have hlt3 : (l.take t).length = t := by rw [List.length_take]; omega
      rw [← htk, hlt3] at hpk
      have hpl := pick_len p (l.take t) k0
      rw [hlt3] at hpl
      obtain ⟨k, hk⟩ : ∃ k, k = k0 + t := ⟨_, rfl⟩
      rw [← hk] at hK hkt hpk
      have hki : (k : Int) < 8 := by omega
      have HK : Hid (k + 1 = k0 + (t + 1)) := Lib.hid (by omega)
      obtain ⟨P1, hP1⟩ : ∃ P1, P1 = pick p k0 (l.take t) := ⟨_, rfl⟩
      rw [← hP1] at hO hpk hpl ⊢
      have hOa := hO.alloc (.cells #[.int .i64 f.1, .int .i64 f.2] 39)
      have hGa := gtrans hG (galloc wr (.cells #[.int .i64 f.1, .int .i64 f.2] 39) (some kb))
      have hKa := hK.alloc (.cells #[.int .i64 f.1, .int .i64 f.2] 39)
      have hF := Arr.new wr [.int .i64 f.1, .int .i64 f.2] 39
      clear e1 e2 hlt3 hf htk hk hP1 hO hK hG
      go_upto_region 5 with fail
      generalize wr.alloc (.cells #[.int .i64 f.1, .int .i64 f.2] 39) = wq at hOa hGa hKa hF ⊢
      have hfb : kb ≠ wr.heap.size := by omega
      generalize wr.heap.size = fb at hF hfb ⊢
      clear f1 f2
      have hP := hpr.of_block (hGa.block ab hal (by intro e; cases e; exact hne rfl))
      have c1 : wq.cell? ⟨ab, 0, none⟩ = some (.map (some m)) := hP.cellAt rfl
      have c2 : wq.cell? ⟨kb, 0, none⟩ = some (.int .i64 (k : Nat)) := hKa.cellAt rfl
      have hlook := (HM.out.kept hGa (by intro e; cases e; exact hmk rfl)).look hkt
      have hGas := hGa.size
      cases hpb : p k with
      | false =>
        rw [hpb] at hlook hpk
        rw [if_neg (by decide), List.append_nil] at hpk
        have HPK := Lib.hid hpk
        have fz := hKa.free 0
        have hK4 := hKa.store 0 (.int .i64 (k + 1 : Nat))
        have hO4 := owns_grown (w' := wq.setCell ⟨kb, 0, none⟩ (.int .i64 (k + 1 : Nat))) hOa (grown_cellG (⟨rfl, rfl, rfl, Nat.le_refl _, fun _ _ _ => rfl⟩ : wq.grownBy wq (some kb)) 0 _) hkl
        have hG4 := grown_cellG hGa 0 (.int .i64 (k + 1 : Nat))
        have HK4 := Lib.hid hK4
        have HO4 := Lib.hid hO4
        have HG4 := Lib.hid hG4
        have hks : (k : Int) + 1 = ((k + 1 : Nat) : Int) := by omega
        clear hpb hpk hK4 hO4 hG4 hKa hOa hGa hF hP
        rw [show ((k + 1 : Nat) : Int) = (k : Int) + 1 by omega] at HK4 HO4 HG4
        clear hks
        go_wp2
        exact ⟨⟨t + 1, vo, vc, by omega, by go_num, by rw [HPK.out], by rw [HPK.out]; exact HO4.out, by rw [← HK.out]; exact HK4.out, HG4.out⟩, by simp [intOf]; omega⟩
      | true =>
        rw [hpb] at hlook hpk
        rw [if_pos rfl] at hpk
        have HPK := Lib.hid hpk
        have hPb : P1.length ≤ 8 := by omega
        have y1 : wq.cell? ⟨fb, 0, none⟩ = some (.int .i64 f.1) := hF.cellAt rfl
        have y2 : wq.cell? ⟨fb, 1, none⟩ = some (.int .i64 f.2) := hF.cellAt rfl
        have HOA := Lib.hid hOa
        clear hpb hpk hF hOa hP
        go_upto_region 7 with (at_builtin; refine wpList_append_own _ rfl (.tmp 17) (.tmp 19) 26 rfl w.heap.size 39 i0 (.agg #[.int .i64 0, .int .i64 0]) 2 16 Try.underlying26 HI.out.1 HI.out.2.1 HI.out.2.2.1 HI.out.2.2.2 rfl (by decide) _ P1.length _ rfl (HOA.out.alloc _) ⟨wq.heap.size, 0, none⟩ 1 1 [.int .i64 f.1, .int .i64 f.2] rfl rfl (cells_new _ _ _ _ rfl) (one2 _ _) (by unfold maxLen; omega) (by omega) (by simp; omega) ?_; intro v2 w4 hO2 hg2 _)
        obtain ⟨a2, c2', rfl, -, -⟩ := own_form2 hO2
        have hOal := HOA.out.alloc (.cells #[.int .i64 f.1, .int .i64 f.2] 39)
        have hGal := gtrans hGa (galloc wq (.cells #[.int .i64 f.1, .int .i64 f.2] 39) (some kb))
        have hG3 := grown_own hGal hOal hg2 (Nat.le_refl _)
        have hK3 := (hKa.alloc (.cells #[.int .i64 f.1, .int .i64 f.2] 39)).of_block (own_kept hOal hg2 kb hkl (by simp; omega))
        have hlen2 : (P1 ++ [f]).length = P1.length + 1 := by simp
        rw [← cellsF_snoc, ← hlen2] at hO2
        rw [← hlen2]
        clear hg2 hOal hGal c1 c2 hlook y1 y2 hKa hGa
        have c2 : w4.cell? ⟨kb, 0, none⟩ = some (.int .i64 (k : Nat)) := hK3.cellAt rfl
        have fz := hK3.free 0
        have hK4 := hK3.store 0 (.int .i64 (k + 1 : Nat))
        have hO4 := owns_grown (w' := w4.setCell ⟨kb, 0, none⟩ (.int .i64 (k + 1 : Nat))) hO2 (grown_cellG (⟨rfl, rfl, rfl, Nat.le_refl _, fun _ _ _ => rfl⟩ : w4.grownBy w4 (some kb)) 0 _) hkl
        have hG4 := grown_cellG hG3 0 (.int .i64 (k + 1 : Nat))
        have HK4 := Lib.hid hK4
        have HO4 := Lib.hid hO4
        have HG4 := Lib.hid hG4
        clear hK4 hO4 hG4 hK3 hO2 hG3
        rw [show ((k + 1 : Nat) : Int) = (k : Int) + 1 by omega] at HK4 HO4 HG4
        go_wp2
        exact ⟨⟨t + 1, a2, c2', by omega, by go_num, by rw [HPK.out], by rw [HPK.out]; exact HO4.out, by rw [← HK.out]; exact HK4.out, HG4.out⟩, by simp [intOf]; omega⟩
    · obtain rfl : t = l.length := by omega
      rw [List.take_length] at hO ⊢
      have h64' : ∀ f ∈ pick p k0 l, in64 f.1 ∧ in64 f.2 := fun f hf => H64.out f (pick_mem p l k0 f hf)
      have hFr := frs_of_own hO h64'
      have ON := Lib.hid (treach_any wr.heap.size _ (pick p k0 l) wr hFr (Nat.le_refl _))
      have HK := Lib.hid hK
      clear hFr h64' hO hK
      obtain ⟨o, ho⟩ : ∃ o, o = oneB (pick p k0 l) := ⟨_, rfl⟩
      rw [← ho] at ON
      have HO := Lib.hid ho
      clear ho
      go_wp2_with (go_at_call 25; (with_reducible refine ON.out.mono ?_); rintro e w1 ⟨rfl, hb1⟩)
      go_ret
      exact ⟨by rw [← HO.out]; rfl, HK.out.below hb1 HK.out.lt, gtrans hG (grown_of_below hb1 (Nat.le_refl _) _)⟩
theorem enL_all_iff (p : Nat → Bool) : ∀ (ws : List (List FR)) (k : Nat), enL p k ws = true ↔ ∀ j, j < ws.length → oneB (pick p (k + lenL (ws.take j)) (ws.getD j [])) = true
  | [], k => ⟨fun _ j hj => absurd hj (Nat.not_lt_zero _), fun _ => rfl⟩
  | l :: r, k => by
    unfold enL
    rw [Bool.and_eq_true, enL_all_iff p r (k + l.length)]
    constructor
    · rintro ⟨h1, h2⟩ j hj
      cases j with
      | zero => exact h1
      | succ j =>
        have := h2 j (by simpa using hj)
        rw [List.take_succ_cons, lenL, ← Nat.add_assoc]
        exact this
    · intro h
      refine ⟨h 0 (by simp), fun j hj => ?_⟩
      have := h (j + 1) (by simpa using hj)
      rw [List.take_succ_cons, lenL, ← Nat.add_assoc] at this
      exact this
set_option maxHeartbeats 1600000 in
set_option maxRecDepth 100000 in
theorem tenough_any (B : Nat) (num : Int) (v sv : Value) (ws : List (List FR)) (zs : List Int) (keys : Int) (w : World) (hv : FrssAt B w v ws) (hz : IntsAt B w sv zs) (hB : B ≤ w.heap.size) (hval : validB num ws keys = true) (hws : ws.length ≤ 1000000) (hzs : zs.length ≤ 1000000) : Calls Try.prog 21 #[.agg #[.int .i64 num, v], sv] w fun e w' => e = .returned (.bool (enB num ws (inS zs))) ∧ Below w.heap.size w w' := by
  have h8 := (valid_keys hval).2.2
  clear hval
  have b0 := (Below.refl w.heap.size w).alloc (o := .cells #[.int .i64 num, v] 25) (Nat.le_refl _)
  have a0 := Arr.new w [.int .i64 num, v] 25
  have s0 : (w.alloc (.cells #[.int .i64 num, v] 25)).heap.size = w.heap.size + 1 := by simp
  obtain ⟨w0, hw0⟩ : ∃ w0, w0 = w.alloc (.cells #[.int .i64 num, v] 25) := ⟨_, rfl⟩
  rw [← hw0] at b0 a0 s0
  have ME := Lib.hid (tmembers_any B sv zs w0 (hz.below b0 hB) (by omega) hzs)
  rw [s0] at ME
  obtain ⟨p, hp⟩ : ∃ p, p = inS zs := ⟨_, rfl⟩
  rw [← hp] at ME ⊢
  clear hz hp
  have hvc := hv
  obtain ⟨ao, cap, rfl, hcl, hcm, hcells⟩ := hvc
  have HV := Lib.hid hv
  have HC := Lib.hid hcells
  have z0 : w0.cell? ⟨w.heap.size, 1, none⟩ = some (.slice ao ws.length cap) := a0.cellAt rfl
  clear hv hcells
  by_cases h0 : ws = []
  · subst h0
    have hR : enB num [] p = decide (num ≤ (cnt p 8 : Int)) := by unfold enB; rw [if_pos rfl]
    rw [hR]
    obtain ⟨c, hc⟩ : ∃ c, c = cnt p 8 := ⟨_, rfl⟩
    rw [← hc]
    have HCn := Lib.hid hc
    clear hR HC HV z0 hc
    simp only [List.length_nil] at hw0 a0
    go_enter Try.func21, Try.ntmps21
    go_upto_region 1 with fail
    rw [← hw0]
    clear hw0
    go_upto_region 2 with (go_at_call 34; (with_reducible refine ME.out.mono ?_); rintro e w1 ⟨rfl, hm, hb1⟩)
    have hmm := (hm.kept (row := none) (galloc w1 (.cells #[.map (some (w.heap.size + 1))] 57) none) (by simp)).len 3
    have hA := (a0.below hb1 (by omega)).alloc (.cells #[.map (some (w.heap.size + 1))] 57)
    have hb := (b0.trans (hb1.mono (Nat.le_succ _))).alloc (o := .cells #[.map (some (w.heap.size + 1))] 57) (b0.trans (hb1.mono (Nat.le_succ _))).size
    have hPA := Arr.new w1 [.map (some (w.heap.size + 1))] 57
    clear hm hb1 a0 b0
    generalize w1.alloc _ = wq at hmm hA hb hPA ⊢
    generalize w1.heap.size = pb at hPA ⊢
    have z1 : wq.cell? ⟨w.heap.size, 0, none⟩ = some (.int .i64 num) := hA.cellAt rfl
    have z2 : wq.cell? ⟨w.heap.size, 1, none⟩ = some (.slice ao 0 cap) := hA.cellAt rfl
    have z3 : wq.cell? ⟨pb, 0, none⟩ = some (.map (some (w.heap.size + 1))) := hPA.cellAt rfl
    rw [← HCn.out] at hmm
    clear hA hPA
    go_wp2
    go_ret
    exact ⟨rfl, hb⟩
  · have hli : ((ws.length : Int) == 0) = false := by simp only [beq_eq_false_iff_ne, ne_eq]; have := mt List.length_eq_zero_iff.1 h0; omega
    obtain ⟨R, hR⟩ : ∃ R, R = enB num ws p := ⟨_, rfl⟩
    rw [← hR]
    have hR' : R = enL p 0 ws := by rw [hR]; unfold enB; rw [if_neg h0]
    obtain ⟨l0, hl0⟩ : ∃ l0, ws[0]? = some l0 := by
      cases ws with
      | nil => exact absurd rfl h0
      | cons a r => exact ⟨a, rfl⟩
    obtain ⟨g, off, u0, rfl, hg, -, -⟩ := HC.out 0 l0 hl0
    have HR : Hid (∀ r : Bool, (r = true ↔ ∃ j, j < ws.length ∧ (!oneB (pick p (lenL (ws.take j)) (ws.getD j []))) = true) → (!r) = R) := Lib.hid (fun r hr => by
      rw [hR', Bool.eq_iff_iff, enL_all_iff]
      constructor
      · intro h j hj
        rw [Nat.zero_add]
        cases e : oneB (pick p (lenL (ws.take j)) (ws.getD j [])) with
        | true => rfl
        | false =>
          rw [hr.2 ⟨j, hj, by rw [e]; rfl⟩] at h
          cases h
      · intro h
        cases r with
        | false => rfl
        | true =>
          obtain ⟨j, hj, e⟩ := hr.1 rfl
          have := h j hj
          rw [Nat.zero_add] at this
          rw [this] at e
          cases e)
    clear hR hR' h0 hl0
    have eg : ∀ args w, (callFunc 35 args).run Try.prog w = .ok (.enter 35 args) w := enters_of Try.func35 (by kernel_rfl) rfl
    go_enter Try.func21, Try.ntmps21
    go_upto_region 1 with fail
    rw [← hw0]
    clear hw0
    go_upto_region 2 with (go_at_call 34; (with_reducible refine ME.out.mono ?_); rintro e w1 ⟨rfl, hm, hb1⟩)
    have hs1 := hb1.size
    have hm2 := hm.kept (row := none) (galloc w1 (.cells #[.map (some (w.heap.size + 1))] 57) none) (by simp)
    have hA := (a0.below hb1 (by omega)).alloc (.cells #[.map (some (w.heap.size + 1))] 57)
    have hb := (b0.trans (hb1.mono (Nat.le_succ _))).alloc (o := .cells #[.map (some (w.heap.size + 1))] 57) (b0.trans (hb1.mono (Nat.le_succ _))).size
    have hPA := Arr.new w1 [.map (some (w.heap.size + 1))] 57
    have hpb : w.heap.size + 1 ≤ w1.heap.size := by omega
    have hmlt : w.heap.size + 1 < w1.heap.size := hm.lt
    clear hm hb1 a0 b0 hs1 z0
    generalize w1.alloc _ = wq at hm2 hA hb hPA ⊢
    generalize w1.heap.size = pb at hPA hpb hmlt ⊢
    have z2 : wq.cell? ⟨w.heap.size, 1, none⟩ = some (.slice (some ⟨g, off, none⟩) ws.length cap) := hA.cellAt rfl
    go_upto_region 5 with fail
    have hpl := hPA.lt
    have hm3 := hm2.kept (row := none) (galloc wq (.cells #[.int .i64 0] 3) none) (by simp)
    have hA3 := hA.alloc (.cells #[.int .i64 0] 3)
    have hb3 := hb.alloc (o := .cells #[.int .i64 0] 3) hb.size
    have hPA3 := hPA.alloc (.cells #[.int .i64 0] 3)
    have hKA3 := Arr.new wq [.int .i64 0] 3
    have hbs := hb.size
    clear hm2 hA hb hPA z2
    generalize wq.alloc _ = wz at hm3 hA3 hb3 hPA3 hKA3 ⊢
    have hkb : w.heap.size + 1 < wq.heap.size := by omega
    have hkp : pb < wq.heap.size := hpl
    generalize wq.heap.size = kb at hKA3 hkb hkp hbs hpl ⊢
    have z2 : wz.cell? ⟨w.heap.size, 1, none⟩ = some (.slice (some ⟨g, off, none⟩) ws.length cap) := hA3.cellAt rfl
    have hkz := hKA3.lt
    have hcells' : ∀ j wr, j < ws.length → wz.grownBy wr (some kb) → ∃ u, w.cell? ⟨g, off + j, none⟩ = some u ∧ wr.cell? ⟨g, off + j, none⟩ = some u ∧ FrsAt B wr u (ws.getD j []) := fun j wr hj hgr => by
      obtain ⟨g', off', u, e, hg', c1, hF⟩ := HC.out j _ (List.getElem?_eq_getElem hj)
      cases e
      have e2 : ws.getD j [] = ws[j] := by rw [List.getD_eq_getElem?_getD, List.getElem?_eq_getElem hj]; rfl
      rw [e2]
      refine ⟨u, c1, ?_, (hF.below hb3 hB).grown hgr (by omega) (by have := hb3.size; omega)⟩
      exact (cell_sameT (hgr.block g (by omega) (by intro e; cases e; omega)) _).trans ((hb3.cell (p := ⟨g, _, none⟩) (by show g < w.heap.size; omega)).trans c1)
    have CT := Lib.hid (tcont_any 35 #[.pointer (some ⟨pb, 0, none⟩), .pointer (some ⟨kb, 0, none⟩)] g off ws.length cap (fun j => !oneB (pick p (lenL (ws.take j)) (ws.getD j []))) (fun j => (w.cell? ⟨g, off + j, none⟩).getD undef) (fun j wr => wz.grownBy wr (some kb) ∧ Arr wr kb 3 [.int .i64 (lenL (ws.take j) : Nat)]) wz hws eg ⟨⟨rfl, rfl, rfl, Nat.le_refl _, fun _ _ _ => rfl⟩, hKA3⟩ (fun j wr hj hJ => by
        obtain ⟨u, c1, c2, -⟩ := hcells' j wr hj hJ.1
        rw [c1, c2]; rfl) (fun j wr hj hJ => by
        obtain ⟨u, c1, c2, hF⟩ := hcells' j wr hj hJ.1
        rw [c1]
        have hsn : lenL (ws.take (j + 1)) = lenL (ws.take j) + (ws.getD j []).length := by
          rw [List.take_add_one, List.getD_eq_getElem?_getD, List.getElem?_eq_getElem hj]; exact lenL_snoc _ _
        have h8' := lenL_take ws (j + 1)
        refine (tkeyshort_any B u _ p (lenL (ws.take j)) pb kb (w.heap.size + 1) wr hF (by omega) (hPA3.kept hJ.1 (by intro e; cases e; omega)) (by omega) (by omega) (hm3.kept hJ.1 (by intro e; cases e; omega)) hJ.2 (by omega)).mono (fun e w' h => ⟨h.1, gtrans hJ.1 h.2.2, ?_⟩)
        rw [hsn]
        exact h.2.1))
    clear hcells' hm3 hPA3 hKA3 eg HC HV
    go_wp2_with (go_at_call 27; (with_reducible refine CT.out.mono ?_); rintro e w2 ⟨⟨r, rfl, hr⟩, k, hk, hb2, -⟩; replace hr := Lib.hid (HR.out r hr); replace hk := Lib.hid hk)
    go_ret
    exact ⟨by rw [← hr.out]; rfl, gbelow hb3 hb2 hb3.size (by omega)⟩
end Go.Proofs.Ytefhhfpdponabaa
