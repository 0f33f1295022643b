/- Texts. -/
import Derived.Test.YthcgkkafbobfoaaDoorNsl
import Derived.Test.YthcgkkafbobfoaaDoorPlan
namespace Go.Proofs.YthcgkkafbobfoaaDoor
open Go Go.ChangeShapes Go.WideShapes Go.ChangeAt Go.RowKit
set_option linter.unusedVariables false
set_option linter.unusedSimpArgs false

def textN (s : ByteArray) : ND := .mk 3 false 0 s [] []
/-- The list under construction. -/
def TSt (TN : TypeId) (w wr : World) (ns : List ByteArray) (j : Nat) : Prop := ∃ (ai : Option Addr) (ci : Nat) (A : List NC), wr.heap[w.heap.size]? = some (.cells #[.int .i64 0, .bool false, .int .i64 0, .string ⟨#[]⟩, .slice none 0 0, .slice none 0 0] TN (0, 0)) ∧ wr.heap[w.heap.size + 1]? = some (.cells #[.int .i64 4, .bool false, .int .i64 0, .string ⟨#[]⟩, .slice none 0 0, .slice ai A.length ci] TN (0, 0)) ∧ NRow TN 1 (w.heap.size + 2) none wr (.slice ai A.length ci) A ∧ nodesOf A = (ns.take j).map textN ∧ Below w.heap.size w wr ∧ (∀ x, x ∈ A → NodeIn 1 (PlainB wr) wr x.1 x.2)
set_option maxHeartbeats 1600000 in
set_option maxRecDepth 100000 in
theorem ntexts_any {S : Nat → Prop} (v : Value) (ns : List ByteArray) (w : World) (h : StrsIn S w v ns) (hS : ∀ b, S b → b < w.heap.size) (hl : ns.length ≤ 1000000) :
    Calls Tryd.prog 18 #[v] w (NodeNew 2 w (.mk 4 false 0 ⟨#[]⟩ [] (ns.map textN))) := by
  obtain ⟨ip, hip, hz0, hz1, hz2⟩ := infon
  have hug := Tryd.underlying24
  have HIP := Lib.hid hip
  obtain ⟨an, cn, rfl, n1, n2, -⟩ := id h
  have hsz := Lib.hid h.sizes
  obtain ⟨w1, hw1⟩ : ∃ W, W = (w.alloc (.cells #[.int .i64 0, .bool false, .int .i64 0, .string ⟨#[]⟩, .slice none 0 0, .slice none 0 0] 26)).alloc (.cells #[.int .i64 4, .bool false, .int .i64 0, .string ⟨#[]⟩, .slice none 0 0, .slice none 0 0] 26) := ⟨_, rfl⟩
  have z1 : (w.alloc (.cells #[.int .i64 0, .bool false, .int .i64 0, .string ⟨#[]⟩, .slice none 0 0, .slice none 0 0] 26)).heap.size = w.heap.size + 1 := by simp
  have b1 : Below w.heap.size w w1 := by rw [hw1]; exact ((Below.refl _ _).alloc (Nat.le_refl _) _).alloc (by simp) _
  have k0 : w1.heap[w.heap.size]? = some (.cells #[.int .i64 0, .bool false, .int .i64 0, .string ⟨#[]⟩, .slice none 0 0, .slice none 0 0] 26 (0, 0)) := by rw [hw1]; exact (Below.heap_alloc _ _ _ (by omega)).trans (heap_alloc_new _ _)
  have k1 : w1.heap[w.heap.size + 1]? = some (.cells #[.int .i64 4, .bool false, .int .i64 0, .string ⟨#[]⟩, .slice none 0 0, .slice none 0 0] 26 (0, 0)) := by
    have := heap_alloc_new (w.alloc (.cells #[.int .i64 0, .bool false, .int .i64 0, .string ⟨#[]⟩, .slice none 0 0, .slice none 0 0] 26)) (.cells #[.int .i64 4, .bool false, .int .i64 0, .string ⟨#[]⟩, .slice none 0 0, .slice none 0 0] 26)
    rw [z1] at this
    rw [hw1]; exact this
  have T0 : Hid (TSt 26 w w1 ns 0) := Lib.hid ⟨none, 0, [], k0, k1, NRow.nil _ _ _ _ _, rfl, b1, fun x hx => by cases hx⟩
  have H := Lib.hid h
  have HS := Lib.hid hS
  have HL := Lib.hid hl
  clear h hS hl hip b1 k0 k1 z1
  go_enter Tryd.func18, Tryd.ntmps18
  go_upto_region 2 with fail
  rw [← hw1]
  clear hw1
  go_upto_region 3 with fail
  go_loopw [9] (fun i wr => ∃ j : Nat, i = .int .i64 j ∧ j ≤ ns.length ∧ TSt 26 w wr ns j) (fun i _ => ns.length - (intOf i).toNat)
  case atStart => exact ⟨0, rfl, Nat.zero_le _, T0.out⟩
  case round =>
    obtain ⟨j, rfl, hj, ai, ci, A, hres, hnod, hrow, hA, hB, hpl⟩ := hrel
    by_cases hlt : j < ns.length
    · have hlt' : (j : Int) < (ns.length : Int) := by omega
      have hj0 : (0 : Int) ≤ (j : Int) := by omega
      have hjm : (ns.length : Int) ≤ 1000000 := by have := HL.out; omega
      have HLT := Lib.hid hlt
      obtain ⟨s, hs⟩ : ∃ s, ns[j]? = some s := ⟨_, List.getElem?_eq_getElem hlt⟩
      obtain ⟨b, off, rfl, hb, k⟩ := H.out.get hs
      have r1 := (hB.cell (p := ⟨b, off + j, none⟩) (HS.out b hb)).trans k
      have hlA : A.length < 1000000 := by
        have := congrArg List.length hA
        rw [nodesOf, List.length_map, List.length_map, List.length_take] at this
        have := HL.out; omega
      have HSS := Lib.hid hs
      have HA := Lib.hid hA
      have hts := hsz.out s (List.mem_of_getElem? hs)
      have HTS := Lib.hid hts
      clear k hs hA hts hlt
      go_upto_region 5 with fail
      have bd : Below wr.heap.size wr wr.drew := (Below.refl _ _).drew
      have HRES := Lib.hid hres
      have HNOD := Lib.hid hnod
      have HROW := Lib.hid hrow
      have HB := Lib.hid hB
      have HPL := Lib.hid hpl
      have CK := Lib.hid (fun (wx : World) (hb : Below wr.heap.size wr wx) => (six_of ((hb.block _ (lt_of_block HNOD.out)).trans HNOD.out)).2.2.2.2.2)
      clear hres hnod hrow hB hpl r1
      refine wp_region_plan (fun w' => w'.cell? ⟨w.heap.size + 1, 5, none⟩ = some (.slice ai A.length ci)) [1] (.take 0 (.take 1 (.take 2 (.ask 3 true (.ask 4 true (.ask 5 false (.take 6 (.ask 7 false .stop .stop)) .stop) .stop) .stop)))) (by kernel_rfl) (by kernel_rfl) (fun _ d _ _ _ h => by cases d <;> exact h) (CK.out _ bd) ?_
      generalize wr.drew = wd at bd ⊢
      refine take_any _ ?_ rfl rfl ?_ (fun K hK => ?_); rotate_left; (intro w0; go_simp; (try rfl)); (go_simp; refine hK _ ?_; clear hK K)
      refine take_held _ ?_ rfl rfl (by decide) ?_ (fun K hK => ?_); rotate_left; (intro w0 hw0; go_simp; (try rfl)); (go_simp; refine hK _ ?_; clear hK K)
      refine take_any _ ?_ rfl rfl ?_ (fun K hK => ?_); rotate_left; (intro w0; go_simp; (try rfl)); (go_simp; refine hK _ ?_; clear hK K)
      refine ask_step _ rfl trivial ?_
      go_wp2_with (go_at_call 22; (with_reducible refine (ntext_any _ _).mono ?_); rintro e W2 ⟨rfl, hb2⟩)
      have B2 := bd.trans (hb2.mono bd.size)
      refine Seg.mk ⟨CK.out _ B2, ?_⟩
      have b3 := (Below.refl W2.heap.size W2).alloc (o := .cells #[.int .i64 3, .bool false, .int .i64 0, .string s, .slice none 0 0, .slice none 0 0] 26) (Nat.le_refl _)
      have cn3 := cells_new W2 #[.int .i64 3, .bool false, .int .i64 0, .string s, .slice none 0 0, .slice none 0 0] 26 [.int .i64 3, .bool false, .int .i64 0, .string s, .slice none 0 0, .slice none 0 0] rfl
      have B3 := B2.trans (b3.mono B2.size)
      have ck3 := CK.out _ B3
      have hrow3 := HROW.out.below B3
      have hpl3 := NRow.plain HROW.out HPL.out (Below.grown B3) (fun r e => by cases e)
      have hB3 := HB.out.trans (B3.mono HB.out.size)
      have hbs : w.heap.size + 2 ≤ (W2.alloc (.cells #[.int .i64 3, .bool false, .int .i64 0, .string s, .slice none 0 0, .slice none 0 0] 26)).heap.size := Nat.le_trans (lt_of_block HNOD.out) B3.size
      refine ask_step _ rfl trivial ?_
      go_wp2_with fail
      generalize hW3 : W2.alloc (.cells #[.int .i64 3, .bool false, .int .i64 0, .string s, .slice none 0 0, .slice none 0 0] 26) = W3 at b3 cn3 B3 ck3 hrow3 hpl3 hB3 hbs ⊢
      clear hW3
      refine Seg.mk ⟨ck3, ?_⟩
      refine ask_late _ rfl trivial ?_
      have HR3 := Lib.hid hrow3
      have HC3 := Lib.hid cn3
      go_wp2_with (refine wpList_append_lies _ rfl (.tmp 14) (.tmp 17) 24 rfl (w.heap.size + 2) 26 ip (.agg #[.int .i64 0, .bool false, .int .i64 0, .string ⟨#[]⟩, .slice none 0 0, .slice none 0 0]) 6 88 hug HIP.out hz0 hz1 hz2 rfl (by decide) (.slice ai A.length ci) A.length _ rfl HR3.out.1 ⟨W2.heap.size, 0, none⟩ 1 1 [.int .i64 3, .bool false, .int .i64 0, .string s, .slice none 0 0, .slice none 0 0] rfl rfl HC3.out (by intro u hu; simp at hu; rcases hu with rfl | rfl | rfl | rfl | rfl | rfl <;> rfl) (by decide) (by unfold maxLen; omega) (by omega) hbs _ rfl ?_; intro gg cc W8 hown hgrow hat hlt2)
      have hlo : ∀ g, (Value.slice ai A.length ci).ownBlock = some g → w.heap.size + 2 ≤ g := fun g e => (HR3.out.1.lt _ e).1
      have hk8 := (hgrow.block _ (Nat.lt_of_lt_of_le (lt_of_block HNOD.out) B3.size) (fun e => by have := hlo _ e.symm; omega)).trans ((B3.block _ (lt_of_block HNOD.out)).trans HNOD.out)
      have hres8 := (hgrow.block _ (Nat.lt_of_lt_of_le (lt_of_block HRES.out) B3.size) (fun e => by have := hlo _ e.symm; omega)).trans ((B3.block _ (lt_of_block HRES.out)).trans HRES.out)
      have hf8 := free_six hk8
      have hd8 := six_of hk8
      have hrow8 := HR3.out.push (x := textN s) hown hgrow (own_at hat) (fun b e => by cases e) (node_leaf _ _ 3 false 0 s HTS.out)
      have hpl8 : ∀ y, y ∈ A ++ [([.int .i64 3, .bool false, .int .i64 0, .string s, .slice none 0 0, .slice none 0 0], textN s)] → NodeIn 1 (PlainB W8) W8 y.1 y.2 := by
        intro y hy
        rcases List.mem_append.1 hy with hy | hy
        · exact NRow.plain HR3.out hpl3 hgrow (fun r e => .inr e) y hy
        · cases List.mem_singleton.1 hy
          exact node_leaf _ _ 3 false 0 s HTS.out
      have hB8 : Below w.heap.size w W8 := hB3.grown hgrow hB3.size (fun g e => by have := hlo _ e; omega)
      have hgs := grown_set W8 (w.heap.size + 1) 5 (.slice (some ⟨gg, 0, none⟩) (A.length + 1) cc)
      have hk9 := six_set5 hk8 (.slice (some ⟨gg, 0, none⟩) (A.length + 1) cc)
      have hres9 := (hgs.block _ (lt_of_block hres8) (by intro e; have := Option.some.inj e; omega)).trans hres8
      have hrow9 := hrow8.kept hgs (fun r e => .inl (by have := Option.some.inj e; omega)) (.inl rfl)
      have hpl9 := NRow.plain hrow8 hpl8 hgs (fun r e => .inl (by have := Option.some.inj e; omega))
      have hB9 : Below w.heap.size w (W8.setCell ⟨w.heap.size + 1, 5, none⟩ (.slice (some ⟨gg, 0, none⟩) (A.length + 1) cc)) := hB8.grown hgs hB8.size (fun g e => by have := Option.some.inj e; omega)
      have hlen : (A ++ [(([.int .i64 3, .bool false, .int .i64 0, .string s, .slice none 0 0, .slice none 0 0] : List Value), textN s)]).length = A.length + 1 := by simp
      have F9 := Lib.hid (show TSt 26 w (W8.setCell ⟨w.heap.size + 1, 5, none⟩ (.slice (some ⟨gg, 0, none⟩) (A.length + 1) cc)) ns (j + 1) from ⟨some ⟨gg, 0, none⟩, cc, _, hres9, by rw [hlen]; exact hk9, by rw [hlen]; exact hrow9, by rw [List.take_add_one, HSS.out, List.map_append, ← HA.out]; simp [nodesOf], hB9, hpl9⟩)
      clear hk9 hres9 hrow9 hpl9 hB9 hlen hrow8 hpl8 hB8 hgs hres8 hk8 hown hgrow hat hpl3 hB3 hrow3
      refine Seg.mk ?_
      refine take_any _ ?_ rfl rfl ?_ (fun K hK => ?_); rotate_left; (intro w0; go_simp; (try rfl)); (go_simp; refine hK _ ?_; clear hK K)
      refine ask_last _ rfl trivial ?_
      go_wp2
      go_roundw
      case rel => exact ⟨j + 1, by go_num, by have := HLT.out; omega, F9.out⟩
      case measure => have := HLT.out; simp [intOf]; omega
    · have hlt' : ¬ (j : Int) < (ns.length : Int) := by omega
      have hjl : j = ns.length := by omega
      rw [hjl, List.take_length] at hA
      have q1 := six_of hnod
      have q2 := six_of hres
      have q3 := free_six hres
      have HA := Lib.hid hA
      have HRES := Lib.hid hres
      have HN := Lib.hid (hrow.fr hpl)
      have HB := Lib.hid hB
      clear hA hres hnod hrow hpl hB hjl
      go_wp2
      have hput := six_put HRES.out (.int .i64 4) (.bool false) (.int .i64 0) (.string ⟨#[]⟩) (.slice none 0 0) (.slice ai A.length ci)
      have hgf := grown_set6 wr w.heap.size (.int .i64 4) (.bool false) (.int .i64 0) (.string ⟨#[]⟩) (.slice none 0 0) (.slice ai A.length ci)
      refine bodyPost_ret (v := .agg #[.int .i64 4, .bool false, .int .i64 0, .string ⟨#[]⟩, .slice none 0 0, .slice ai A.length ci]) ?_ ?_ ?_
      rotate_left
      · rfl
      · have e1 : ∀ b, Fr (w.heap.size + 2) wr b → (set6 wr w.heap.size (.int .i64 4) (.bool false) (.int .i64 0) (.string ⟨#[]⟩) (.slice none 0 0) (.slice ai A.length ci)).heap[b]? = wr.heap[b]? := fun b hb => hgf.block b hb.2.1 (by intro e; have := Option.some.inj e; have := hb.1; omega)
        have hN := HN.out
        rw [HA.out] at hN
        exact ⟨_, rfl, ⟨_, _, rfl, Nat.zero_le _, StrsIn.nil _ _, (hN.same e1 fun cs y q => q.same e1).mono (fun b hb => hb.move (e1 b hb) (by omega) hgf.size) fun cs y q => q.mono fun b hb => hb.move (e1 b hb) (by omega) hgf.size⟩, HB.out.grown hgf HB.out.size (fun g e => by have := Option.some.inj e; omega)⟩
      · obtain ⟨q0, q1, q2, q3, q4, q5⟩ := six_of hput
        simp only [set6] at q0 q1 q2 q3 q4 q5
        simp [results, Tryd.results18, go_sem, q0, q1, q2, q3, q4, q5]
end Go.Proofs.YthcgkkafbobfoaaDoor
