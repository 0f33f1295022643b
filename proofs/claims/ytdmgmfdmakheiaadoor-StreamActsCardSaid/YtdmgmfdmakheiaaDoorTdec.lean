/- The program's Decode of groups and FromBinary. -/
import Derived.Test.YtdmgmfdmakheiaaDoorTitems
import Derived.Test.YtdmgmfdmakheiaaDoorTmark
namespace Go.Proofs.YtdmgmfdmakheiaaDoor
open Go.ChangeShapes Go.WideShapes Go.ChangeAt Go.RowKit Go.Maps
set_option linter.unusedVariables false
set_option linter.unusedSimpArgs false

/-- What Decode holds while it reads: the block of the text that is left (the first that it has made), the map of the letters, the groups. -/
def DSt (w wr : World) (mb C : Nat) (lv : Value) (A : List Trip) (tt : ByteArray) : Prop :=
  Below w.heap.size w wr ∧ wr.heap[w.heap.size]? = some (.cells #[.string tt] 9 (0, 0)) ∧ wr.ownsMap Tryd.prog 9 (plainElem Tryd.prog 3) mb 5 (mapK 5) ∧ GRow 28 C wr lv A ∧ C ≤ wr.heap.size
theorem DSt.below {w wr wn : World} {mb C : Nat} {lv : Value} {A : List Trip} {tt : ByteArray} (h : DSt w wr mb C lv A tt) (hb : Below wr.heap.size wr wn) : DSt w wn mb C lv A tt := by
  obtain ⟨h1, h2, h3, h4, h5⟩ := h
  exact ⟨h1.trans (hb.mono h1.size), keepB hb (lt_of_block h2) h2, h3.kept (grown_of_below hb (Nat.le_refl _) none) (by simp), h4.below hb, Nat.le_trans h5 hb.size⟩
theorem DSt.read {w wr wn : World} {mb C : Nat} {lv : Value} {A : List Trip} {tt t' : ByteArray} (h : DSt w wr mb C lv A tt) (hgC : w.heap.size < C) (hmb : mb ≠ w.heap.size) (hg : wr.grownBy wn (some w.heap.size)) (hr : wn.heap[w.heap.size]? = some (.cells #[.string t'] 9 (0, 0))) : DSt w wn mb C lv A t' := by
  obtain ⟨h1, h2, h3, h4, h5⟩ := h
  exact ⟨gbelow h1 hg h1.size (Nat.le_refl _), hr, h3.kept hg (by intro e; cases e; exact hmb rfl), h4.kept hg (fun r e => by cases e; exact hgC), Nat.le_trans h5 hg.size⟩
theorem DSt.put {w wr : World} {mb C : Nat} {lv : Value} {A : List Trip} {tt : ByteArray} (h : DSt w wr mb C lv A tt) (hgC : w.heap.size < C) (hmb : mb ≠ w.heap.size) (t' : ByteArray) : DSt w (wr.setCell ⟨w.heap.size, 0, none⟩ (.string t')) mb C lv A t' :=
  h.read hgC hmb (grown_set _ _ _ _) (one_set1 h.2.1 _)
/-- One group more. -/
theorem DSt.push {w wr w2 : World} {mb C : Nat} {lv v' : Value} {A : List Trip} {tt : ByteArray} {k : Int} {vi : Value} {L : List Prim} (h : DSt w wr mb C lv A tt) (hgC : w.heap.size < C) (hmC : mb < C)
    (hown : w2.ownsRow C 28 2 v' (A.length + 1) (gCells A ++ [.int .i64 k, vi])) (hg : wr.grownBy w2 lv.ownBlock) (hat : v'.ownBlock = lv.ownBlock ∨ ∀ b, v'.ownBlock = some b → wr.heap.size ≤ b)
    (hp : PrimsAt wr.heap.size wr vi L) (hb : L ≠ [] → ∀ b, vi.ownBlock = some b → C ≤ b ∧ lv.ownBlock ≠ some b) : DSt w w2 mb C v' (A ++ [(k, vi, L)]) tt := by
  obtain ⟨h1, h2, h3, h4, h5⟩ := h
  refine ⟨h1.grown hg h1.size (fun b e => by have := (h4.1.lt b e).1; omega), (own_kept h4.1 hg _ hgC (lt_of_block h2)).trans h2, h3.kept hg ?_, h4.push hown hg hat hp hb, Nat.le_trans h5 hg.size⟩
  intro e
  have := (h4.1.lt mb e.symm).1
  omega
set_option maxHeartbeats 4000000 in
set_option maxRecDepth 100000 in
theorem decG_any (t : ByteArray) (w : World) (hm : t.size ≤ 1000000) (hT : Tbs w) : Calls Tryd.prog 18 #[.string t] w (DecPost t w) := by
  have hmf : ∀ (fn : Fn) (first cap : Array Value) (w : World), (Instr.makeFunc fn first cap).run Tryd.prog w = .ok (.func fn first cap) w := fun _ _ _ _ => rfl
  have b0 := (Below.refl w.heap.size w).alloc (o := .cells #[.string t] 9) (Nat.le_refl _)
  have r0 : (w.alloc (.cells #[.string t] 9)).heap[w.heap.size]? = some (.cells #[.string t] 9 (0, 0)) := heap_alloc_new w _
  have KI0 := kinds_any (w.alloc (.cells #[.string t] 9)) (hT.shp.go b0)
  have hsz : (w.alloc (.cells #[.string t] 9)).heap.size = w.heap.size + 1 := by simp
  obtain ⟨mb, hmb⟩ : ∃ mb, mb = (w.alloc (.cells #[.string t] 9)).heap.size := ⟨_, rfl⟩
  rw [← hmb] at KI0
  have KI := Lib.hid KI0
  have hmb1 : w.heap.size < mb := by omega
  have HT := Lib.hid hT
  have HB0 := Lib.hid b0
  have HR0 := Lib.hid r0
  have HMB := Lib.hid hmb
  clear hT b0 r0 hmb KI0 hsz
  go_enter Tryd.func18, Tryd.ntmps18
  go_wp2_with (go_at_call 40; (with_reducible refine (KI.out).mono ?_); rintro e w1 ⟨rfl, hb1, hmp⟩)
  have hmbw := hmp.lt
  obtain ⟨C, hC⟩ : ∃ C, C = w1.heap.size := ⟨_, rfl⟩
  have hgC : w.heap.size < C := by omega
  have hmC : mb < C := by omega
  have hmg : mb ≠ w.heap.size := by omega
  have hst : DSt w w1 mb C (.slice none 0 0) [] t := by
    rw [HMB.out] at hb1
    have hlt : w.heap.size < (w.alloc (.cells #[.string t] 9)).heap.size := by simp
    exact ⟨HB0.out.trans (hb1.mono HB0.out.size), keepB hb1 hlt HR0.out, hmp, GRow.nil _ _ _, by rw [hC]; exact Nat.le_refl _⟩
  have HST := Lib.hid hst
  clear hst hb1 hmp hC hmbw HB0 HR0 KI
  go_loopw [7] (fun lv wr => ∃ (tt : ByteArray) (A : List Trip) (f : Nat) (ao : Option Addr) (cap : Nat), lv = .slice ao A.length cap ∧ FarG t (grpsOf A) f tt ∧ DSt w wr mb C (.slice ao A.length cap) A tt ∧ A.length + cntG (grpsOf A) + tt.size ≤ t.size) (fun _ wr => match wr.cell? ⟨w.heap.size, 0, none⟩ with | some v => txSize v | none => 0)
  case atStart => exact ⟨t, [], t.size, none, 0, rfl, farG_start t, HST.out, by simp [grpsOf, cntG]⟩
  case round =>
    clear HST
    obtain ⟨tt, A, f, ao, cap, rfl, hfar, hst, hle⟩ := hrel
    have cg := one_of1 hst.2.1
    have HCG := Lib.hid cg
    by_cases hn : tt.size = 0
    · have htn : tt = ⟨#[]⟩ := ByteArray.ext (Array.eq_empty_of_size_eq_zero hn)
      have hq := same_str htn
      have hq1 := empty_str htn
      obtain ⟨e1, e2⟩ := farG_end hfar hn
      have EX := Lib.hid (exceeds_any (.slice ao A.length cap) (grpsOf A) wr hst.2.2.2.1.groups (by omega))
      by_cases hcl : 1024 < cntG (grpsOf A)
      · rw [decide_eq_true hcl] at EX
        rw [if_pos hcl] at e1 e2
        have HP : Hid (∀ wn, Below wr.heap.size wr wn → DecPost t w (.returned (.tuple #[.slice none 0 0, .int .i64 3])) wn) := fun wn hb => ⟨hst.1.trans (hb.mono hst.1.size), _, by rw [e1], by rw [e2]; exact groups_nil _ _⟩
        clear e1 e2 hfar hst hn htn
        go_wp2_with (go_at_call 29; (with_reducible refine (EX.out).mono ?_); rintro e wn ⟨rfl, hbn⟩)
        go_ret2
        exact HP.out _ hbn
      · rw [decide_eq_false hcl] at EX
        rw [if_neg hcl] at e1 e2
        have HP : Hid (∀ wn, Below wr.heap.size wr wn → DecPost t w (.returned (.tuple #[.slice ao A.length cap, .int .i64 0])) wn) := fun wn hb => ⟨hst.1.trans (hb.mono hst.1.size), _, by rw [e1], by rw [e2]; exact (hst.below hb).2.2.2.1.groups⟩
        clear e1 e2 hfar hst hn htn
        go_wp2_with (go_at_call 29; (with_reducible refine (EX.out).mono ?_); rintro e wn ⟨rfl, hbn⟩)
        go_ret2
        exact HP.out _ hbn
    · have htn : tt ≠ ⟨#[]⟩ := fun e => hn (by rw [e]; rfl)
      have hq := other_str htn
      have hq1 := full_str htn
      have htt : tt.size ≤ maxLen - 2 := by unfold maxLen; omega
      have MA0 := markAt_any tt mb wr htt (HT.out.below hst.1 (Nat.le_refl _)).tab hst.2.2.1
      unfold MarkPost at MA0
      cases hmo : markOk tt with
      | false =>
        rw [hmo] at MA0
        have hgE : grpE tt = 4 := (grp_unmarked hmo).2
        obtain ⟨e1, e2⟩ := farG_err hfar hn (by rw [hgE]; decide)
        rw [hgE] at e1
        have HP : Hid (∀ wn, Below wr.heap.size wr wn → DecPost t w (.returned (.tuple #[.slice none 0 0, .int .i64 4])) wn) := fun wn hb => ⟨hst.1.trans (hb.mono hst.1.size), _, by rw [e1], by rw [e2]; exact groups_nil _ _⟩
        have MA := Lib.hid MA0
        clear MA0 hgE e1 e2 hfar hst hn htn hmo
        go_wp2_with (go_at_call 41; (with_reducible refine (MA.out).mono ?_); rintro e wn ⟨ka, na, rfl, -, hbn⟩)
        go_ret2
        exact HP.out _ hbn
      | true =>
        rw [hmo] at MA0
        obtain ⟨k1, k4, n4, -, hs4⟩ := mark_once hmo
        have hgE := grp_marked hmo
        have herr := fun h => farG_err hfar hn h
        have hnext := fun h => farG_next hfar hn h
        have hsz := fun h => grp_sizes (t := tt) h
        have hgL : grpItems tt = gL (codesN (markK tt) (markC tt)) (tt.extract 4 tt.size) := rfl
        have hgR : grpE tt = 0 → grpR tt = gR (codesN (markK tt) (markC tt)) (tt.extract 4 tt.size) := fun h => by unfold grpR; rw [if_neg (fun e => e h)]
        obtain ⟨K, hK⟩ : ∃ v, v = markK tt := ⟨_, rfl⟩
        obtain ⟨n, hN⟩ : ∃ v, v = markC tt := ⟨_, rfl⟩
        rw [← hK, ← hN] at MA0 hgE hgL hgR
        rw [← hK] at hnext k1 k4
        rw [← hN] at n4
        have MA1 : Calls Tryd.prog 41 #[.string tt, .map (some mb)] wr fun e w' => e = .returned (.tuple #[.int .i64 K, .int .i64 (n : Int), .bool true]) ∧ Below wr.heap.size wr w' := MA0.mono fun e w' ⟨a, b, h1, h2, h3⟩ => ⟨by rw [h1, (h2 rfl).1, (h2 rfl).2], h3⟩
        have MA := Lib.hid MA1
        obtain ⟨cs, hcs⟩ : ∃ v, v = codesN K n := ⟨_, rfl⟩
        obtain ⟨T0, hT0⟩ : ∃ v, v = tt.extract 4 tt.size := ⟨_, rfl⟩
        have hT0s : T0.size ≤ maxLen - 2 := by rw [hT0, ByteArray.size_extract]; omega
        rw [← hcs, ← hT0] at hgE hgL hgR
        have IT := Lib.hid (fun (vp : Value) (wx : World) (hB : Below w.heap.size w wx) (hr : wx.heap[w.heap.size]? = some (.cells #[.string T0] 9 (0, 0))) (hP : IntsAt wx.heap.size wx vp (permL K)) => itemsOf_any K n w.heap.size T0 vp w wx ⟨k1, k4⟩ (by omega) hT0s HT.out hB (Nat.le_refl _) hr hP)
        rw [← hcs] at IT
        unfold ItemsPost at IT
        rw [← hgL, ← hgE] at IT
        have HGR := Lib.hid hgR
        have HERR := Lib.hid herr
        have HNEXT := Lib.hid hnext
        have HSZ := Lib.hid hsz
        have HT0 := Lib.hid hT0
        have HS := Lib.hid hst
        have PE := Lib.hid (fun (wx : World) (h : Shp wx) => perm_any K wx h)
        unfold PermPost at PE
        obtain ⟨E, hE⟩ : ∃ v, v = grpE tt := ⟨_, rfl⟩
        obtain ⟨R, hR⟩ : ∃ v, v = grpR tt := ⟨_, rfl⟩
        obtain ⟨L, hL⟩ : ∃ v, v = grpItems tt := ⟨_, rfl⟩
        rw [← hE, ← hL] at IT
        rw [← hE, ← hR] at HGR
        rw [← hE] at HERR
        rw [← hE, ← hR, ← hL] at HNEXT
        rw [← hE, ← hR, ← hL] at HSZ
        have hs4' : (4 : Int) ≤ (tt.size : Int) := by omega
        have HN := Lib.hid hn
        clear MA0 MA1 hgE hgL hgR herr hnext hsz hK hN hcs hT0 hfar hst hn htn hmo hE hR hL htt
        have hss : tt.extract 4 tt.size = T0 := HT0.out.symm
        go_upto_region 10 with (first
          | (go_at_call 41; (with_reducible refine (MA.out).mono ?_); rintro e wm ⟨rfl, hbm⟩; have hs1 := HS.out.below hbm; have cm := one_of1 hs1.2.1; have fm := free_one1 hs1.2.1))
        have hs2 := hs1.put hgC hmg T0
        obtain ⟨ws, hws⟩ : ∃ v, v = wm.setCell ⟨w.heap.size, 0, none⟩ (.string T0) := ⟨_, rfl⟩
        rw [← hws] at hs2
        rw [← hws]
        clear hws hs1 cm fm cg
        have hsp : Shp ws := (HT.out.below hs2.1 (Nat.le_refl _)).shp
        go_upto_region 11 with (first
          | (go_at_call 25; (with_reducible refine (PE.out _ hsp).mono ?_); rintro e wp ⟨vp, rfl, hbp, hip⟩; have hs3 := hs2.below hbp; have IU := Lib.hid (IT.out vp wp hs3.1 hs3.2.1 hip))
          | (go_at_call 42; (with_reducible refine (IU.out).mono ?_); rintro e wi ⟨hgi, ai, li, ci, rfl, hgood⟩))
        have hlt1 : ∀ b, (Value.slice ao A.length cap).ownBlock = some b → C ≤ b ∧ b < wp.heap.size := fun b e => hs3.2.2.2.1.1.lt b e
        by_cases he0 : E = 0
        · subst he0
          obtain ⟨hri, hp, hob⟩ := hgood rfl
          rw [← HGR.out rfl] at hri
          have hs4 := hs3.read hgC hmg hgi hri
          obtain rfl : li = L.length := by obtain ⟨_, _, e, _⟩ := hp; cases e; rfl
          have hsum := HSZ.out rfl
          have hwi : wp.heap.size ≤ wi.heap.size := hgi.size
          have hCi : C ≤ wi.heap.size := hs4.2.2.2.2
          have hown := hs4.2.2.2.1.1
          have HS4 := Lib.hid hs4
          have HF := Lib.hid (HNEXT.out rfl)
          have HPP := Lib.hid hp
          have HOB := Lib.hid hob
          have HL1 := Lib.hid hlt1
          have HCP := Lib.hid hs3.2.2.2.2
          obtain ⟨ip, hip, hz0, hz1, hz2⟩ := infog
          have hug := Tryd.underlying23
          have hAl : A.length ≤ 1000000 := by omega
          clear hs2 hs3 hs4 hgood hri hp hob hlt1 hgi IT IU HERR HNEXT MA PE
          go_wp2_with (at_builtin; refine wpList_append_lies _ rfl (.tmp 40) (.tmp 44) 23 rfl C 28 ip _ 2 32 hug hip hz0 hz1 hz2 rfl (by decide) _ A.length (gCells A) rfl (hown.alloc _) ⟨wi.heap.size, 0, none⟩ 1 1 [.int .i64 K, .slice ai L.length ci] rfl rfl (cells_new _ _ _ _ rfl) (by intro u hu; simp at hu; rcases hu with rfl | rfl <;> rfl) (by decide) (by unfold maxLen; omega) (by omega) (by simp; omega) _ rfl ?_; intro g' cap' w2 hown2 hgrow hat hlt)
          have hat2 : (Value.slice ao A.length cap).ownBlock = some g' ∨ g' = (wi.alloc (.cells #[.int .i64 K, .slice ai L.length ci] 28)).heap.size := hat
          have hgw : wi.grownBy w2 (Value.slice ao A.length cap).ownBlock := gtrans (galloc wi _ _) hgrow
          have hpush := HS4.out.push (v' := .slice (some ⟨g', 0, none⟩) (A.length + 1) cap') hgC hmC hown2 hgw (by
            rcases hat2 with h | h
            · exact .inl (by rw [h]; rfl)
            · refine .inr fun b e => ?_
              cases e
              show wi.heap.size ≤ g'
              rw [h]; simp) HPP.out (fun hn b e => ⟨by have := HOB.out b e; have := HCP.out; omega, fun e' => by have h1 := HOB.out b e; have h2 := (HL1.out b e').2; omega⟩)
          have HPU := Lib.hid hpush
          clear hpush hown2 hgrow hgw hat hat2
          go_roundw
          case rel =>
            refine ⟨R, A ++ [(K, .slice ai L.length ci, L)], f - 1, some ⟨g', 0, none⟩, cap', by rw [List.length_append]; rfl, by rw [grpsOf_append]; exact HF.out, by rw [List.length_append]; exact HPU.out, by rw [List.length_append, cnt_snoc]; show A.length + 1 + _ + _ ≤ _; omega⟩
          case measure =>
            rw [one_of1 HPU.out.2.1, HCG.out]
            simp [txSize]; omega
        · obtain ⟨e1, e2⟩ := HERR.out he0
          have hb3 : (E != 0) = true := by simpa using he0
          have hs4 := gbelow hs3.1 hgi hs3.1.size (Nat.le_refl _)
          have HP : Hid (DecPost t w (.returned (.tuple #[.slice none 0 0, .int .i64 E])) wi) := ⟨hs4, _, by rw [e1], by rw [e2]; exact groups_nil _ _⟩
          clear e1 e2 hgood hs2 hs3 hs4 he0 hlt1 IT IU HERR HNEXT MA PE
          go_wp2
          go_ret2
          exact HP.out

set_option maxHeartbeats 800000 in
set_option maxRecDepth 100000 in
theorem fbG_any (t : ByteArray) (w : World) (hm : t.size ≤ maxLen) (hT : Tbs w) : Calls Tryd.prog 20 #[.string t] w (FbPost t w) := by
  have TE0 := ytext_any t w hm
  have DE0 := fun (wx : World) (hx : Tbs wx) => decG_any (encS t.data.toList) wx (Nat.le_trans (encS_size _) (by decide)) hx
  unfold DecPost at DE0
  unfold FbPost fbE fbL
  obtain ⟨S, hS⟩ : ∃ v, v = encS t.data.toList := ⟨_, rfl⟩
  obtain ⟨E, hE⟩ : ∃ v, v = encE t.data.toList := ⟨_, rfl⟩
  rw [← hS, ← hE] at TE0
  rw [← hS] at DE0
  rw [← hS, ← hE]
  obtain ⟨D, hD⟩ : ∃ v, v = decGE S := ⟨_, rfl⟩
  rw [← hD] at DE0
  rw [← hD]
  have TE := Lib.hid TE0
  have DE := Lib.hid DE0
  have HT := Lib.hid hT
  clear hS hE hD TE0 DE0 hT
  by_cases h : E = 0
  · subst h
    rw [if_neg (fun h => h rfl), if_neg (fun h => h rfl)]
    go_enter Tryd.func20, Tryd.ntmps20
    go_wp2_with (first
      | (go_at_call 44; (with_reducible refine (TE.out).mono ?_); rintro e wn ⟨rfl, hb⟩; have hTn := HT.out.go hb)
      | (go_at_call 18; (with_reducible refine (DE.out _ hTn).mono ?_); rintro e wm ⟨hb2, v, rfl, hv⟩))
    go_ret2
    exact ⟨hb.trans (hb2.mono hb.size), v, rfl, hv⟩
  · have hn : (E != 0) = true := by simpa using h
    rw [if_pos h, if_pos h]
    clear DE
    go_enter Tryd.func20, Tryd.ntmps20
    go_wp2_with (first
      | (go_at_call 44; (with_reducible refine (TE.out).mono ?_); rintro e wn ⟨rfl, hb⟩))
    go_ret2
    exact ⟨hb, _, rfl, groups_nil _ _⟩

end Go.Proofs.YtdmgmfdmakheiaaDoor
