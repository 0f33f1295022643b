/- The document's Decode of groups and FromBinary. -/
import Derived.Test.YtdmgmfdmakheiaaDoorSgood
import Derived.Test.YtdmgmfdmakheiaaDoorSdata
import Derived.Test.YtdmgmfdmakheiaaDoorTrow
namespace Go.Proofs.YtdmgmfdmakheiaaDoor
open Go.ChangeShapes Go.WideShapes Go.ChangeAt Go.RowKit
set_option linter.unusedVariables false
set_option linter.unusedSimpArgs false

def txSize : Value → Nat
  | .string s => s.size
  | _ => 0
theorem grpsOf_append (A : List Trip) (k : Int) (v : Value) (L : List Prim) : grpsOf (A ++ [(k, v, L)]) = grpsOf A ++ [(k, L)] := by simp [grpsOf]
theorem cnt_snoc (A : List Trip) (k : Int) (v : Value) (L : List Prim) : cntG (grpsOf (A ++ [(k, v, L)])) = cntG (grpsOf A) + L.length := by rw [grpsOf_append, cnt_append]; simp [cntG]
theorem gL_size : ∀ (cs : List Int) (t : ByteArray), gE cs t = 0 → (gL cs t).length + (gR cs t).size ≤ t.size
  | [], t, _ => by simp [gL, gR]
  | c :: cs, t, h => by
    rw [gE] at h
    by_cases he : (decQ t).e = 0
    · rw [if_neg (fun h => h he)] at h
      by_cases hc : (decQ t).c = c
      · rw [if_neg (fun h => h hc)] at h
        have i := gL_size cs _ h
        obtain ⟨n, n1, n2, n3, n4, n5⟩ := once_read t he
        have hs := (size_four n n2.c1 n2.c8).2.1
        have hr : (restQ t).size = t.size - sizeN n := by
          unfold restQ
          rw [n3, Int.toNat_natCast, ByteArray.size_extract]; omega
        rw [gL, gR, List.length_cons]
        omega
      · rw [if_pos hc] at h; cases h
    · rw [if_pos he] at h; exact absurd h he
theorem grp_sizes {t : ByteArray} (h : grpE t = 0) : (grpItems t).length + (grpR t).size + 4 ≤ t.size := by
  have hm : markOk t = true := by
    cases hm : markOk t with
    | true => rfl
    | false => unfold grpE at h; rw [if_pos hm] at h; cases h
  have h4 := (mark_once hm).2.2.2.2
  have hR : grpR t = gR (codesN (markK t) (markC t)) (t.extract 4 t.size) := by unfold grpR; rw [h, if_neg (by decide)]
  unfold grpE at h
  rw [if_neg (by rw [hm]; decide)] at h
  have := gL_size _ _ h
  rw [hR]
  unfold grpItems
  rw [ByteArray.size_extract] at this
  omega
theorem groups_nil (B : Nat) (w : World) : GroupsAt B w (.slice none 0 0) [] := ⟨none, 0, rfl, Nat.le_refl _, Nat.zero_le _, fun j hj => absurd hj (Nat.not_lt_zero _)⟩
/-- What Decode leaves. -/
def DecPost (t : ByteArray) (w : World) (e : Ending) (w' : World) : Prop :=
  Below w.heap.size w w' ∧ ∃ v, e = .returned (.tuple #[v, .int .i64 (decGE t)]) ∧ GroupsAt w'.heap.size w' v (decGL t)

theorem infog : ∃ i, Tryd.prog.info? 28 = some i ∧ i.zero = some (.agg #[.int .i64 0, .slice none 0 0]) ∧ i.size = 2 ∧ i.bytes = 32 := by
  have h : (Tryd.prog.info? 28).map (fun i => (i.zero, i.size, i.bytes)) = some (some (.agg #[.int .i64 0, .slice none 0 0]), 2, 32) := by kernel_rfl
  cases e : Tryd.prog.info? 28 with
  | none => rw [e] at h; cases h
  | some i =>
    rw [e] at h
    simp at h
    exact ⟨i, rfl, h.1, h.2.1, h.2.2⟩
set_option maxHeartbeats 4000000 in
set_option maxRecDepth 100000 in
theorem rdecG_any (t : ByteArray) (w : World) (hm : t.size ≤ 1000000) : Calls Tryd.prog 19 #[.string t] w (DecPost t w) := by
  have b0 := Below.refl w.heap.size w
  have hg0 : GRow 28 w.heap.size w (.slice none 0 0) [] := GRow.nil _ _ _
  go_enter Tryd.func19, Tryd.ntmps19
  go_wp2
  go_loopw [0, 4, 5] (fun tx lv nv wr => ∃ (tt : ByteArray) (A : List Trip) (f c : Nat) (ao : Option Addr) (cap : Nat), tx = .string tt ∧ lv = .slice ao A.length cap ∧ nv = .int .i64 (c : Int) ∧ c = cntG (grpsOf A) ∧ FarG t (grpsOf A) f tt ∧ GRow 28 w.heap.size wr (.slice ao A.length cap) A ∧ Below w.heap.size w wr ∧ A.length + c + tt.size ≤ t.size) (fun tx _ _ _ => txSize tx)
  case atStart => exact ⟨t, [], t.size, 0, none, 0, rfl, rfl, rfl, rfl, farG_start t, hg0, b0, by simp⟩
  case round =>
    clear b0 hg0
    obtain ⟨tt, A, f, c, ao, cap, rfl, rfl, rfl, hc, hfar, hrow, hB, hle⟩ := hrel
    by_cases hn : tt.size = 0
    · have h0 : ¬ (0 : Int) < (tt.size : Int) := by omega
      obtain ⟨e1, e2⟩ := farG_end hfar hn
      rw [← hc] at e1 e2
      by_cases hcl : 1024 < c
      · rw [if_pos hcl] at e1 e2
        have hcl' : (1024 : Int) < (c : Int) := by omega
        have HP : Hid (DecPost t w (.returned (.tuple #[.slice none 0 0, .int .i64 3])) wr) := ⟨hB, _, by rw [e1], by rw [e2]; exact groups_nil _ _⟩
        clear e1 e2 hfar hrow hc hn
        go_wp2
        go_ret2
        exact HP.out
      · rw [if_neg hcl] at e1 e2
        have hcl' : ¬ (1024 : Int) < (c : Int) := by omega
        have HP : Hid (DecPost t w (.returned (.tuple #[.slice ao A.length cap, .int .i64 0])) wr) := ⟨hB, _, by rw [e1], by rw [e2]; exact hrow.groups⟩
        clear e1 e2 hfar hrow hc hn
        go_wp2
        go_ret2
        exact HP.out
    · have h0 : (0 : Int) < (tt.size : Int) := by omega
      have htt : tt.size ≤ maxLen - 2 := by unfold maxLen; omega
      have GR := Lib.hid (fun wx : World => rgroup_any tt wx htt)
      unfold GrpPost at GR
      have herr := fun h => farG_err hfar hn h
      have hnext := fun h => farG_next hfar hn h
      have hsz := fun h => grp_sizes (t := tt) h
      obtain ⟨R, hR⟩ : ∃ v, v = grpR tt := ⟨_, rfl⟩
      obtain ⟨E, hE⟩ : ∃ v, v = grpE tt := ⟨_, rfl⟩
      obtain ⟨K, hK⟩ : ∃ v, v = markK tt := ⟨_, rfl⟩
      obtain ⟨L, hL⟩ : ∃ v, v = grpItems tt := ⟨_, rfl⟩
      rw [← hR, ← hE, ← hK, ← hL] at GR
      rw [← hE] at herr
      rw [← hE, ← hK, ← hL, ← hR] at hnext
      rw [← hE, ← hL, ← hR] at hsz
      have HERR := Lib.hid herr
      have HNEXT := Lib.hid hnext
      have HSZ := Lib.hid hsz
      have HC := Lib.hid hc
      have HN := Lib.hid hn
      clear herr hnext hsz hR hE hK hL hfar hn hc htt
      go_upto_region 5 with (go_at_call 43; (with_reducible refine (GR.out _).mono ?_); rintro e wn ⟨hb, kk, ai, li, ci, rfl, hgood⟩)
      have hB1 : Below w.heap.size w wn := hB.trans (hb.mono hB.size)
      have hrow1 : GRow 28 w.heap.size wn (.slice ao A.length cap) A := hrow.below hb
      have hlt1 : ∀ b, (Value.slice ao A.length cap).ownBlock = some b → w.heap.size ≤ b ∧ b < wr.heap.size := fun b e => hrow.1.lt b e
      have hA := (Below.refl wn.heap.size wn).alloc (o := .cells #[.int .i64 kk, .slice ai li ci] 28) (Nat.le_refl _)
      have hB2 : Below w.heap.size w (wn.alloc (.cells #[.int .i64 kk, .slice ai li ci] 28)) := hB1.alloc (o := .cells #[.int .i64 kk, .slice ai li ci] 28) hB1.size
      have hrow2 := hrow1.below hA
      have hx0 : (wn.alloc (.cells #[.int .i64 kk, .slice ai li ci] 28)).heap[wn.heap.size]? = some (.cells #[.int .i64 kk, .slice ai li ci] 28 (0, 0)) := heap_alloc_new _ _
      have hwr := hB.size
      have hwn := hb.size
      by_cases he0 : E = 0
      · subst he0
        obtain ⟨rfl, hp, hob⟩ := hgood rfl
        have hp2 : PrimsAt (wn.alloc (.cells #[.int .i64 kk, .slice ai li ci] 28)).heap.size (wn.alloc (.cells #[.int .i64 kk, .slice ai li ci] 28)) (.slice ai li ci) L := hp.same (fun j hj => Below.heap_alloc wn _ j hj) hA.size
        obtain rfl : li = L.length := by obtain ⟨_, _, e, _⟩ := hp; cases e; rfl
        have hsum := HSZ.out rfl
        obtain ⟨wa, hwa⟩ : ∃ v, v = wn.alloc (.cells #[.int .i64 kk, .slice ai L.length ci] 28) := ⟨_, rfl⟩
        rw [← hwa] at hx0 hrow2 hB2 hp2
        rw [← hwa]
        obtain ⟨bx, hbx⟩ : ∃ v, v = wn.heap.size := ⟨_, rfl⟩
        rw [← hbx] at hx0
        rw [← hbx]
        have hbxa : bx < wa.heap.size := lt_of_block hx0
        have HBX := Lib.hid hbx
        have hszb : wa.heap.size = bx + 1 := by rw [hwa, hbx]; simp
        have HSZB := Lib.hid hszb
        have HBXW := Lib.hid (show wr.heap.size ≤ bx by rw [hbx]; exact hwn)
        have hobw : ∀ b, (Value.slice ao A.length cap).ownBlock = some b → b ≠ bx := fun b e => by have := (hlt1 b e).2; have := HBXW.out; omega
        clear hwa hbx hszb
        obtain ⟨x1, x2⟩ := two_of hx0
        have HROW := Lib.hid hrow2
        have hO : Hid ((wa.alloc (.cells #[.int .i64 kk, .slice ai L.length ci] 28)).drew.ownsRow w.heap.size 28 2 (.slice ao A.length cap) A.length (gCells A)) := hrow2.1.alloc (.cells #[.int .i64 kk, .slice ai L.length ci] 28)
        have hNw := Lib.hid (World.news_of_block (w := (wa.alloc (.cells #[.int .i64 kk, .slice ai L.length ci] 28)).drew) (heap_alloc_new wa (.cells #[.int .i64 kk, .slice ai L.length ci] 28)))
        obtain ⟨ip, hip, hz0, hz1, hz2⟩ := infog
        have hS0 : wa.cell? ⟨bx, 0, none⟩ = some (.int .i64 kk) ∧ wa.cell? ⟨bx, 1, none⟩ = some (.slice ai L.length ci) := ⟨x1, x2⟩
        have hS0d : wa.drew.cell? ⟨bx, 0, none⟩ = some (.int .i64 kk) ∧ wa.drew.cell? ⟨bx, 1, none⟩ = some (.slice ai L.length ci) := hS0
        have hbA := ((Below.refl wa.heap.size wa).alloc (o := .cells #[.int .i64 kk, .slice ai L.length ci] 28) (Nat.le_refl _)).drew
        have hS1 : (wa.alloc (.cells #[.int .i64 kk, .slice ai L.length ci] 28)).drew.cell? ⟨bx, 0, none⟩ = some (.int .i64 kk) ∧ (wa.alloc (.cells #[.int .i64 kk, .slice ai L.length ci] 28)).drew.cell? ⟨bx, 1, none⟩ = some (.slice ai L.length ci) := two_keep hbA hbxa hS0
        have HS2 : Hid (∀ w' : World, (wa.alloc (.cells #[.int .i64 kk, .slice ai L.length ci] 28)).drew.grownBy w' (Value.slice ao A.length cap).ownBlock → w'.cell? ⟨bx, 0, none⟩ = some (.int .i64 kk) ∧ w'.cell? ⟨bx, 1, none⟩ = some (.slice ai L.length ci)) :=
          fun w' hg => by
            have hne : some bx ≠ (Value.slice ao A.length cap).ownBlock := fun e => hobw bx e.symm rfl
            exact ⟨hg.cell hS1.1 hne, hg.cell hS1.2 hne⟩
        have hza : (wa.alloc (.cells #[.int .i64 kk, .slice ai L.length ci] 28)).drew.heap.size = wa.heap.size + 1 := by
          show (wa.alloc _).heap.size = _
          simp
        have hbs : w.heap.size ≤ (wa.alloc (.cells #[.int .i64 kk, .slice ai L.length ci] 28)).drew.heap.size := by have := hB2.size; omega
        have hug := Tryd.underlying23
        have hAl : A.length ≤ 1000000 := by omega
        have hcs : c + L.length ≤ 2000000 := by omega
        have HOB := Lib.hid hob
        have HP2 := Lib.hid hp2
        have HF := Lib.hid (HNEXT.out rfl)
        have HB2 := Lib.hid hB2
        have HHB := Lib.hid (show ∀ b, (Value.slice ao A.length cap).ownBlock = some b → b < wr.heap.size from fun b e => (hlt1 b e).2)
        clear hx0 hrow hrow1 hrow2 hgood hp hob hp2 hobw hlt1 hbA hA hB hB1 hB2 hb GR HERR HNEXT HSZ
        go_wp2
        go_region_law
          (first
            | (refine step_append_lies _ rfl (.tmp 21) (.tmp 23) 23 rfl w.heap.size 28 ip _ 2 32 hug hip hz0 hz1 hz2 rfl (by decide) _ A.length (gCells A) (by simp [Act.eval, Act.put]) hO.out ⟨wa.heap.size, 0, none⟩ 1 1 [.int .i64 kk, .slice ai L.length ci] (by simp [Act.eval, Act.put]) rfl hNw.out (by intro u hu; simp at hu; rcases hu with rfl | rfl <;> rfl) (by decide) (by unfold maxLen; omega) (by omega) hbs _ rfl ?_; intro g' cap' w' hown hgrow hat hlt; have hS2 := HS2.out w' hgrow))
        all_goals
          go_simp
          go_wp2
          have hgw : wa.grownBy w' (Value.slice ao A.length cap).ownBlock := gtrans (gdrew (galloc wa _ _)) hgrow
          have hzz : (wa.alloc (.cells #[.int .i64 kk, .slice ai L.length ci] 28)).drew.heap.size = wa.heap.size + 1 := by
            show (wa.alloc _).heap.size = _
            simp
          have hpush : GRow 28 w.heap.size w' (.slice (some ⟨g', 0, none⟩) (A.length + 1) cap') (A ++ [(kk, .slice ai L.length ci, L)]) :=
            GRow.push HROW.out hown hgw (by
              rcases hat with h | h
              · exact .inl (by rw [h]; rfl)
              · refine .inr fun b e => ?_
                cases e
                show wa.heap.size ≤ g'
                omega) HP2.out (fun hn b e => ⟨by have := HOB.out b e; omega, fun e' => by have h1 := HOB.out b e; have h2 := HHB.out b e'; omega⟩)
          have hbw : Below w.heap.size w w' := HB2.out.grown hgw HB2.out.size (fun b e => (HROW.out.1.lt b e).1)
          have HPU := Lib.hid hpush
          have HBW := Lib.hid hbw
          clear hpush hbw hown hgrow hgw hS2
          go_roundw
          case rel =>
            refine ⟨R, A ++ [(kk, .slice ai L.length ci, L)], f - 1, c + L.length, some ⟨g', 0, none⟩, cap', rfl, by rw [List.length_append]; rfl, by first | go_num | (rw [wraps_i64 _ (by omega) (by omega)]; go_num), by rw [cnt_snoc, HC.out], by rw [grpsOf_append]; exact HF.out, by rw [List.length_append]; exact HPU.out, HBW.out, by rw [List.length_append]; show A.length + 1 + _ + _ ≤ _; omega⟩
          case measure => simp [txSize]; omega
      · obtain ⟨e1, e2⟩ := HERR.out he0
        have hb3 : (E != 0) = true := by simpa using he0
        have HP : Hid (DecPost t w (.returned (.tuple #[.slice none 0 0, .int .i64 E])) (wn.alloc (.cells #[.int .i64 kk, .slice ai li ci] 28))) := ⟨hB2, _, by rw [e1], by rw [e2]; exact groups_nil _ _⟩
        clear e1 e2 hgood hrow hrow1 hrow2 hx0 he0 hlt1
        go_wp2
        go_ret2
        exact HP.out

/-- FromBinary as data. -/
def fbE (t : ByteArray) : Int := if encE t.data.toList ≠ 0 then encE t.data.toList else decGE (encS t.data.toList)
def fbL (t : ByteArray) : List Grp := if encE t.data.toList ≠ 0 then [] else decGL (encS t.data.toList)
def FbPost (t : ByteArray) (w : World) (e : Ending) (w' : World) : Prop :=
  Below w.heap.size w w' ∧ ∃ v, e = .returned (.tuple #[v, .int .i64 (fbE t)]) ∧ GroupsAt w'.heap.size w' v (fbL t)
theorem encS_size (l : List UInt8) : (encS l).size ≤ 100000 := by
  unfold encS
  by_cases h : 65536 < l.length ∨ l.length % 3 ≠ 0
  · rw [if_pos h]; exact Nat.zero_le _
  · rw [if_neg h, strL_size, encL_length (l.length / 3) l (by omega)]
    omega
set_option maxHeartbeats 800000 in
set_option maxRecDepth 100000 in
theorem rfbG_any (t : ByteArray) (w : World) (hm : t.size ≤ maxLen) : Calls Tryd.prog 21 #[.string t] w (FbPost t w) := by
  have TE0 := rtext_any t w hm
  have DE0 := fun wx : World => rdecG_any (encS t.data.toList) wx (Nat.le_trans (encS_size _) (by decide))
  unfold DecPost at DE0
  unfold FbPost fbE fbL
  obtain ⟨S, hS⟩ : ∃ v, v = encS t.data.toList := ⟨_, rfl⟩
  obtain ⟨E, hE⟩ : ∃ v, v = encE t.data.toList := ⟨_, rfl⟩
  rw [← hS, ← hE] at TE0
  rw [← hS] at DE0
  rw [← hS, ← hE]
  obtain ⟨D, hD⟩ : ∃ v, v = decGE S := ⟨_, rfl⟩
  rw [← hD] at DE0
  rw [← hD]
  have TE := Lib.hid TE0
  have DE := Lib.hid DE0
  clear hS hE hD TE0 DE0
  by_cases h : E = 0
  · subst h
    rw [if_neg (fun h => h rfl), if_neg (fun h => h rfl)]
    go_enter Tryd.func21, Tryd.ntmps21
    go_wp2_with (first
      | (go_at_call 45; (with_reducible refine (TE.out).mono ?_); rintro e wn ⟨rfl, hb⟩)
      | (go_at_call 19; (with_reducible refine (DE.out _).mono ?_); rintro e wm ⟨hb2, v, rfl, hv⟩))
    go_ret2
    exact ⟨hb.trans (hb2.mono hb.size), v, rfl, hv⟩
  · have hn : (E != 0) = true := by simpa using h
    rw [if_pos h, if_pos h]
    clear DE
    go_enter Tryd.func21, Tryd.ntmps21
    go_wp2_with (first
      | (go_at_call 45; (with_reducible refine (TE.out).mono ?_); rintro e wn ⟨rfl, hb⟩))
    go_ret2
    exact ⟨hb, _, rfl, groups_nil _ _⟩

end Go.Proofs.YtdmgmfdmakheiaaDoor
