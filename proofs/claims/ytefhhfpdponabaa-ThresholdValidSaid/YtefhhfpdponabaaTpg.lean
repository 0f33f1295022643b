/- The program's leastOf and Least. -/
import Derived.Test.YtefhhfpdponabaaTpf
namespace Go.Proofs.Ytefhhfpdponabaa
open Go Go.Shelf Go.Sort Go.ChangeShapes Go.WideShapes Go.ChangeAt Go.RowKit
set_option linter.unusedVariables false
set_option linter.unusedSimpArgs false

/-- A list of weights, as the sort takes it. -/
def arrW (l : List FR) (h : ∀ f ∈ l, wtB f = true) : Array WT := (l.attach.map fun f => (⟨f.1, h f.1 f.2⟩ : WT)).toArray
theorem arrW_list (l : List FR) (h : ∀ f ∈ l, wtB f = true) : (arrW l h).toList.map Subtype.val = l := by
  unfold arrW
  rw [List.map_map]
  exact List.attach_map_subtype_val l
theorem arrW_size (l : List FR) (h : ∀ f ∈ l, wtB f = true) : (arrW l h).size = l.length := by simp [arrW]
theorem val_get {d : Array WT} {l : List FR} (h : d.toList.map Subtype.val = l) {i : Nat} (hi : i < d.size) : l[i]? = some d[i]!.1 := by
  rw [← h, List.getElem?_map, Array.getElem?_toList, Array.getElem?_eq_getElem hi, getElem!_pos d i hi]; rfl
theorem holds_row {w : World} {g T C : Nat} {l : List FR} {d : Array WT} (h : d.toList.map Subtype.val = l) (hR : Row w g T C (cellsF l)) : HoldsK encW 2 w g 0 d := by
  intro t ht
  rw [size_flatK] at ht
  have hi : t / 2 < d.size := by omega
  rw [get_flatK encW 2 d t ht, Nat.zero_add]
  obtain ⟨q1, q2⟩ := cellsF_get l (t / 2) _ (val_get h hi)
  generalize d[t / 2]! = x at q1 q2
  have hle := hR.le
  rw [cellsF_length, ← h, List.length_map, Array.length_toList] at hle
  refine ⟨?_, (hR.there (j := t) (by omega)).2⟩
  rcases (by omega : t % 2 = 0 ∨ t % 2 = 1) with e | e
  · rw [e]
    exact hR.cellAt (by show (cellsF l)[t]? = some (.int .i64 x.1.1); rw [← q1]; congr 1; omega)
  · rw [e]
    exact hR.cellAt (by show (cellsF l)[t]? = some (.int .i64 x.1.2); rw [← q2]; congr 1; omega)
theorem frs_holds {B : Nat} {w : World} {blk cap : Nat} {d : Array WT} (h : HoldsK encW 2 w blk 0 d) (hb : blk < B) (j : Nat) (hj : j ≤ d.size) (hc : j ≤ cap) (hm : cap ≤ maxLen) : FrsAt B w (.slice (some ⟨blk, 0, none⟩) j cap) ((d.toList.map Subtype.val).take j) := by
  have hl : ((d.toList.map Subtype.val).take j).length = j := by rw [List.length_take, List.length_map, Array.length_toList]; omega
  refine ⟨_, cap, by rw [hl], by omega, hm, fun f hf => ?_, fun i f e => ?_⟩
  · obtain ⟨x, -, rfl⟩ := List.mem_map.1 (List.mem_of_mem_take hf)
    have := (wtB_iff x.1).1 x.2
    unfold in64
    omega
  · have hij : i < j := by
      rcases Nat.lt_or_ge i j with h | h
      · exact h
      · rw [List.getElem?_eq_none (by omega)] at e; cases e
    rw [List.getElem?_take, if_pos hij, val_get rfl (by omega)] at e
    cases e
    have c1 := HoldsK.cells h (fun _ => rfl) (i := i) (by omega) 0 _ rfl
    have c2 := HoldsK.cells h (fun _ => rfl) (i := i) (by omega) 1 _ rfl
    rw [Addr.add_lit] at c1 c2
    exact ⟨blk, 0, rfl, hb, c1, c2⟩
theorem desc_of {d d' : Array WT} (h : SortedIn (ltOf cfW) 0 d.size d') (hs : d'.size = d.size) : Desc (d'.toList.map Subtype.val) := by
  unfold Desc
  rw [List.pairwise_iff_getElem]
  intro i j hi hj hij
  rw [List.length_map, Array.length_toList] at hi hj
  have := h i j (Nat.zero_le _) hij (by omega)
  rw [ltW, decide_eq_false_iff_not, getElem!_pos d' i hi, getElem!_pos d' j hj] at this
  rw [List.getElem_map, List.getElem_map, Array.getElem_toList, Array.getElem_toList]
  omega
theorem perm_of {d d' : Array WT} (h : PermIn 0 d.size d d') : (d'.toList.map Subtype.val).Perm (d.toList.map Subtype.val) := by
  obtain ⟨hs, -, hp⟩ := h
  have e1 : d'.extract 0 d.size = d' := by rw [← hs]; simp
  have e2 : d.extract 0 d.size = d := by simp
  rw [e1, e2] at hp
  exact hp.map _
/-- The least number of keys of a list of weights. -/
noncomputable def minL (l : List FR) : Nat := open Classical in if h : ∃ c, IsLeast l.length (fun p => oneB (pick p 0 l)) c then Classical.choose h else 0
theorem minL_of {l : List FR} {c : Nat} (h : IsLeast l.length (fun p => oneB (pick p 0 l)) c) : minL l = c := by
  have hx : ∃ c, IsLeast l.length (fun p => oneB (pick p 0 l)) c := ⟨c, h⟩
  unfold minL
  rw [dif_pos hx]
  exact (Classical.choose_spec hx).uniq h
set_option maxHeartbeats 1600000 in
set_option maxRecDepth 100000 in
theorem tleastof_any (B : Nat) (v : Value) (l : List FR) (w : World) (hv : FrsAt B w v l) (hB : B ≤ w.heap.size) (hone : oneB l = true) : Calls Try.prog 29 #[v] w fun e w' => (e = .returned (.int .i64 (minL l : Nat)) ∧ IsLeast l.length (fun p => oneB (pick p 0 l)) (minL l) ∧ minL l ≤ 8) ∧ Below w.heap.size w w' := by
  have hw := ((oneB_iff l).1 hone).1
  have h0 : l ≠ [] := fun e => by rw [e, one_nil] at hone; cases hone
  have CL := Lib.hid (tclone_any B v l w hv hB h0 hw.1)
  have hlen : 1 ≤ l.length := by
    cases l with
    | nil => exact absurd rfl h0
    | cons a r => simp
  obtain ⟨d0, hd0, hds⟩ : ∃ d0 : Array WT, d0.toList.map Subtype.val = l ∧ d0.size = l.length := ⟨arrW l hw.2, arrW_list l hw.2, arrW_size l hw.2⟩
  have ST := Lib.hid (fun (wx : World) (g cap : Nat) (hH : HoldsK encW 2 wx g 0 d0) (hg : g < wx.heap.size) => tsort_any g cap d0 wx hH hg (by rw [hds]; exact hw.1))
  rw [hds] at ST
  have HD0 := Lib.hid hd0
  have HDS := Lib.hid hds
  have HW := Lib.hid hw
  have HO := Lib.hid hone
  obtain ⟨n, hn⟩ : ∃ n, n = l.length := ⟨_, rfl⟩
  have hn8 : n ≤ 8 := by rw [hn]; exact hw.1
  have hn8i : (n : Int) ≤ 8 := by omega
  rw [← hn] at hlen CL ST
  have HN := Lib.hid hn
  clear hv hw hone h0 hn hd0 hds
  go_enter Try.func29, Try.ntmps29
  go_upto_region 2 with (go_at_call 37; (with_reducible refine CL.out.mono ?_); rintro e w1 ⟨v1, rfl, hown, hb1⟩)
  obtain ⟨g, cap, rfl, hg, hcap, hcm, hRow⟩ := own_row2 hown hlen
  have hH := holds_row HD0.out hRow
  have hgl := hRow.lt
  have HHK := Lib.hid hH
  clear hown hRow hH
  go_upto_region 3 with (go_at_call 38; (with_reducible refine (ST.out _ _ _ HHK.out hgl).mono ?_); rintro e w2 ⟨rfl, d', m, os, hperm, hsort, hw2⟩; replace hw2 := Lib.hid hw2)
  have hsz : d'.size = n := by rw [hperm.1, HDS.out, HN.out]
  have hsort' : SortedIn (ltOf cfW) 0 d0.size d' := by rw [HDS.out, ← HN.out]; exact hsort
  have hperm' : PermIn 0 d0.size d0 d' := by rw [HDS.out, ← HN.out]; exact hperm
  have hdesc := desc_of hsort' hperm'.1
  have hpm := perm_of hperm'
  rw [HD0.out] at hpm
  have hH2 : HoldsK encW 2 w2 g 0 d' := by
    rw [hw2.out]
    exact holdsK_sortWorldK_c encW 2 w1 g 0 d0 d' m os HHK.out hgl (by rw [hsz, HDS.out, HN.out])
  have hgr : w1.grownBy w2 (some g) := by rw [hw2.out]; exact sort_grown encW 2 w1 g 0 m d' os
  have hb2 := gbelow hb1 hgr hb1.size hg
  have hgl2 : g < w2.heap.size := Nat.lt_of_lt_of_le hgl hgr.size
  have FS := Lib.hid (fun (wx : World) (hb : Below w2.heap.size w2 wx) (j : Nat) (hj : j ≤ n) => treach_any w2.heap.size _ _ wx ((frs_holds hH2 hgl2 j (by omega) (by omega) hcm).below hb (Nat.le_refl _)) hb.size)
  obtain ⟨s, hs⟩ : ∃ s, s = d'.toList.map Subtype.val := ⟨_, rfl⟩
  rw [← hs] at hdesc hpm FS
  have HD := Lib.hid hdesc
  have HP := Lib.hid hpm
  have HS2 := Lib.hid hs
  clear hperm hsort hw2 hsort' hperm' hdesc hpm hH2 hgr HHK hs hsz
  go_upto_region 4 with fail
  go_loopw [4] (fun i wr => ∃ j : Nat, j ≤ n ∧ i = .int .i64 (j : Nat) ∧ Hid (∀ k, k < j → oneB (s.take k) = false) ∧ Below w2.heap.size w2 wr) (fun i _ => n - (intOf i).toNat)
  case atStart => exact ⟨0, Nat.zero_le _, rfl, Lib.hid (fun k hk => absurd hk (Nat.not_lt_zero _)), Below.refl _ _⟩
  case round =>
    obtain ⟨j, hj, rfl, hno, hbr⟩ := hrel
    have hbw := hb2.trans (hbr.mono hb2.size)
    have hjc : (j : Int) ≤ (cap : Int) := by omega
    by_cases hlt : j < n
    · have hltd : decide ((j : Int) < (n : Int)) = true := decide_eq_true (by omega)
      have RO := Lib.hid (FS.out wr hbr j hj)
      obtain ⟨o, ho⟩ : ∃ o, o = oneB (s.take j) := ⟨_, rfl⟩
      rw [← ho] at RO
      have HOO := Lib.hid ho
      clear ho
      cases o with
      | true =>
        have hgre := greedy HW.out HP.out HD.out HOO.out.symm (by rw [HP.out.length_eq, ← HN.out]; omega) hno.out
        have hmin := minL_of hgre
        have HG := Lib.hid (And.intro hmin hgre)
        clear hmin hgre
        go_wp2_with (go_at_call 25; (with_reducible refine RO.out.mono ?_); rintro e w3 ⟨rfl, hb3⟩)
        go_ret
        exact ⟨⟨by rw [HG.out.1]; rfl, by rw [HG.out.1]; exact HG.out.2, by rw [HG.out.1]; omega⟩, hbw.trans (hb3.mono hbw.size)⟩
      | false =>
        go_wp2_with (go_at_call 25; (with_reducible refine RO.out.mono ?_); rintro e w3 ⟨rfl, hb3⟩)
        go_roundw
        case rel => exact ⟨j + 1, by omega, by go_num, Lib.hid (fun k hk => by
          by_cases e : k = j
          · rw [e]; exact HOO.out.symm
          · exact hno.out k (by omega)), hbr.trans (hb3.mono hbr.size)⟩
        case measure => simp [intOf]; omega
    · obtain rfl : j = n := by omega
      have hall : oneB (s.take j) = true := by
        rw [List.take_of_length_le (by rw [HP.out.length_eq, ← HN.out]; exact Nat.le_refl _), oneB_perm HP.out HW.out]
        exact HO.out
      have hgre := greedy HW.out HP.out HD.out hall (by rw [HP.out.length_eq, ← HN.out]; exact Nat.le_refl _) hno.out
      have hmin := minL_of hgre
      have HG := Lib.hid (And.intro hmin hgre)
      clear hmin hgre hall
      go_wp2
      go_ret
      exact ⟨⟨by rw [HG.out.1]; rfl, by rw [HG.out.1]; exact HG.out.2, by rw [HG.out.1]; omega⟩, hbw⟩
theorem leastI_lists {num : Int} {ws : List (List FR)} {keys : Int} (hv : validB num ws keys = true) (h0 : ws ≠ []) (hl : ∀ l ∈ ws, IsLeast l.length (fun p => oneB (pick p 0 l)) (minL l)) : leastI num ws keys = ((ws.map minL).sum : Nat) := by
  refine leastI_of hv ?_
  have h := least_lists ws minL hl
  have hk : keys.toNat = lenL ws := by
    unfold validB at hv
    split at hv
    · rw [Bool.and_eq_true, decide_eq_true_eq, decide_eq_true_eq] at hv; exact absurd hv.2 h0
    split at hv
    · cases hv
    rw [Bool.and_eq_true, decide_eq_true_eq] at hv
    omega
  rw [hk]
  have e : enB num ws = fun p => enL p 0 ws := by
    funext p
    unfold enB
    rw [if_neg h0]
  rw [e]
  exact h
theorem valid_num0 {num : Int} {ws : List (List FR)} {keys : Int} (hv : validB num ws keys = true) (h0 : ws ≠ []) : num = 0 := by
  unfold validB at hv
  split at hv
  · rw [Bool.and_eq_true, decide_eq_true_eq] at hv; exact hv.1
  split at hv
  · cases hv
  rw [Bool.and_eq_true, Bool.and_eq_true, decide_eq_true_eq] at hv
  exact hv.1.2
theorem leastI_num {num : Int} {keys : Int} (hv : validB num [] keys = true) : leastI num [] keys = num := by
  have hk := valid_keys hv
  have hn : 0 ≤ num ∧ num ≤ keys := by
    unfold validB at hv
    split at hv
    · rw [Bool.and_eq_true, decide_eq_true_eq] at hv; omega
    split at hv
    · cases hv
    rw [if_pos rfl, Bool.and_eq_true, decide_eq_true_eq, decide_eq_true_eq] at hv
    omega
  rw [leastI_of hv (least_number (keys := keys.toNat) (by omega) hn.1 (by omega))]
  omega
theorem minL_sum (ws : List (List FR)) (j : Nat) (l : List FR) (h : ws[j]? = some l) : ((ws.take (j + 1)).map minL).sum = ((ws.take j).map minL).sum + minL l := by
  rw [List.take_add_one, h, List.map_append, List.sum_append]
  simp
set_option maxHeartbeats 1600000 in
set_option maxRecDepth 100000 in
theorem tleast_any (B : Nat) (num : Int) (v : Value) (ws : List (List FR)) (keys : Int) (w : World) (hv : FrssAt B w v ws) (hB : B ≤ w.heap.size) (hws : ws.length ≤ 1000000) (hM : lenL ws ≤ 1000000) : Calls Try.prog 17 #[.agg #[.int .i64 num, v], .int .i64 keys] w fun e w' => e = .returned (.int .i64 (leastI num ws keys)) ∧ Below w.heap.size w w' := by
  have b0 := (Below.refl w.heap.size w).alloc (o := .cells #[.int .i64 num, v] 25) (Nat.le_refl _)
  have a0 := Arr.new w [.int .i64 num, v] 25
  have VA := Lib.hid (fun (wx : World) (h : Below w.heap.size w wx) => tvalid_any B num v ws keys wx (hv.below h hB) (Nat.le_trans hB h.size) hws hM)
  have c0 : (w.alloc (.cells #[.int .i64 num, v] 25)).cell? ⟨w.heap.size, 0, none⟩ = some (.int .i64 num) := a0.cellAt rfl
  have c1 : (w.alloc (.cells #[.int .i64 num, v] 25)).cell? ⟨w.heap.size, 1, none⟩ = some v := a0.cellAt rfl
  cases hval : validB num ws keys with
  | false =>
    rw [leastI_no hval]
    rw [hval] at VA
    clear hval
    go_enter Try.func17, Try.ntmps17
    go_wp2_with (go_at_call 15; (with_reducible refine (VA.out _ b0).mono ?_); rintro e w1 ⟨rfl, hb1⟩)
    go_ret
    exact ⟨rfl, b0.trans (hb1.mono b0.size)⟩
  | true =>
    have hall := validB_wts hval
    rw [hval] at VA
    have hk8 := valid_keys hval
    obtain ⟨ao, cap, rfl, hcl, hcm, hcells⟩ := hv
    have HC := Lib.hid hcells
    have HALL := Lib.hid hall
    obtain ⟨R, hR⟩ : ∃ R, R = leastI num ws keys := ⟨_, rfl⟩
    rw [← hR]
    have hnum : in64 num ∧ (ws ≠ [] → num = 0) ∧ (ws = [] → R = num) := by
      by_cases h0 : ws = []
      · subst h0
        have hn : 0 ≤ num ∧ num ≤ 8 := by
          have hk := valid_keys hval
          unfold validB at hval
          split at hval
          · rw [Bool.and_eq_true, decide_eq_true_eq] at hval; omega
          split at hval
          · cases hval
          rw [if_pos rfl, Bool.and_eq_true, decide_eq_true_eq, decide_eq_true_eq] at hval
          omega
        exact ⟨by unfold in64; omega, fun h => absurd rfl h, fun _ => by rw [hR]; exact leastI_num hval⟩
      · have := valid_num0 hval h0
        exact ⟨by unfold in64; omega, fun _ => this, fun h => absurd h h0⟩
    have HR : Hid (ws ≠ [] → (∀ l ∈ ws, IsLeast l.length (fun p => oneB (pick p 0 l)) (minL l)) → R = ((ws.map minL).sum : Nat)) := Lib.hid (fun h0 hl => by rw [hR]; exact leastI_lists hval h0 hl)
    have HNUM := Lib.hid hnum
    have hs8 : ws.length ≤ 8 := by
      have : ∀ (ws : List (List FR)), (∀ l ∈ ws, wts l ∧ l ≠ [] ∧ oneB l = true) → ws.length ≤ lenL ws := by
        intro ws
        induction ws with
        | nil => intro _; exact Nat.zero_le _
        | cons a r ih =>
          intro h
          have h1 := ih (fun x hx => h x (.tail _ hx))
          have h2 : 1 ≤ a.length := by
            have := (h a (.head _)).2.1
            cases a with
            | nil => exact absurd rfl this
            | cons _ _ => simp
          rw [List.length_cons, lenL]; omega
      have := this ws hall
      omega
    clear hcells hall hR hnum hval hM
    go_enter Try.func17, Try.ntmps17
    go_upto_region 3 with (go_at_call 15; (with_reducible refine (VA.out _ b0).mono ?_); rintro e w1 ⟨rfl, hb1⟩)
    have hA := a0.below hb1 a0.lt
    have hb := b0.trans (hb1.mono b0.size)
    have z0 : w1.cell? ⟨w.heap.size, 0, none⟩ = some (.int .i64 num) := hA.cellAt rfl
    have z1 : w1.cell? ⟨w.heap.size, 1, none⟩ = some (.slice ao ws.length cap) := hA.cellAt rfl
    clear c0 c1 a0 b0 hb1 hA VA
    go_upto_region 5 with fail
    go_loopw [5, 17] (fun s i wr => ∃ j : Nat, j ≤ ws.length ∧ i = .int .i64 j ∧ s = .int .i64 (num + (((ws.take j).map minL).sum : Nat)) ∧ (((ws.take j).map minL).sum : Nat) ≤ 8 * j ∧ Hid (∀ l ∈ ws.take j, IsLeast l.length (fun p => oneB (pick p 0 l)) (minL l)) ∧ Below w.heap.size w wr) (fun _ i _ => ws.length - (intOf i).toNat)
    case atStart => exact ⟨0, Nat.zero_le _, rfl, by simp, by simp, Lib.hid (fun l h => by simp at h), hb⟩
    case round =>
      clear hb z0 z1
      obtain ⟨j, hj, rfl, rfl, hsum, hle, hb⟩ := hrel
      by_cases hlt : j < ws.length
      · obtain ⟨l, hl⟩ : ∃ l, ws[j]? = some l := ⟨_, List.getElem?_eq_getElem hlt⟩
        obtain ⟨g, off, u, rfl, hg, c1, hF⟩ := HC.out j l hl
        have d1 := (hb.cell (p := ⟨g, _, none⟩) (by show g < w.heap.size; omega)).trans c1
        have LO := Lib.hid (tleastof_any B u l wr (hF.below hb hB) (Nat.le_trans hB hb.size) (HALL.out l (List.mem_of_getElem? hl)).2.2)
        have hne : ws ≠ [] := by intro e; rw [e] at hlt; exact absurd hlt (Nat.not_lt_zero _)
        have hn0 := HNUM.out.2.1 hne
        subst hn0
        have hsn := minL_sum ws j l hl
        obtain ⟨S, hS⟩ : ∃ S, S = ((ws.take j).map minL).sum := ⟨_, rfl⟩
        rw [← hS] at hsn hsum ⊢
        obtain ⟨c, hc⟩ : ∃ c, c = minL l := ⟨_, rfl⟩
        rw [← hc] at LO hsn
        have hSi : (S : Int) ≤ 64 := by omega
        have HSN := Lib.hid hsn
        have HL := Lib.hid hl
        have HCC := Lib.hid hc
        clear c1 hF hl hne hsn hS hc
        rw [Int.zero_add]
        go_wp2_with (go_at_call 29; (with_reducible refine LO.out.mono ?_); rintro e w3 ⟨⟨rfl, hleast, hc8⟩, hb3⟩; replace hleast := Lib.hid hleast; have hc8i : (c : Int) ≤ 8 := by omega)
        go_roundw
        case rel => exact ⟨j + 1, by omega, by go_num, by rw [HSN.out, Int.zero_add]; go_num, by rw [HSN.out]; omega, Lib.hid (fun x hx => by
          rw [List.take_add_one, HL.out] at hx
          rcases List.mem_append.1 hx with h | h
          · exact hle.out x h
          · simp at h
            rw [h, ← HCC.out]; exact hleast.out), hb.trans (hb3.mono hb.size)⟩
        case measure => simp [intOf]; omega
      · obtain rfl : j = ws.length := by omega
        have hle' := hle.out
        rw [List.take_length] at hle'
        rw [List.take_length] at hsum ⊢
        have hfin : R = num + ((ws.map minL).sum : Nat) := by
          by_cases h0 : ws = []
          · rw [HNUM.out.2.2 h0, h0]; simp
          · rw [HNUM.out.2.1 h0, HR.out h0 hle', Int.zero_add]
        rw [← hfin]
        clear hfin hle' hle hsum
        go_wp2
        go_ret
        exact ⟨rfl, hb⟩
end Go.Proofs.Ytefhhfpdponabaa
