/- The sanity check of the statements of node. -/
import Derived.Test.YthcgkkafbobfoaaDoorNsl
namespace Go.Proofs.YthcgkkafbobfoaaDoor
open Go Go.ChangeShapes Go.WideShapes Go.ChangeAt Go.RowKit
set_option linter.unusedVariables false
set_option linter.unusedSimpArgs false

/-- A slice of strings that stands in one block. -/
theorem strs_of_block {S : Nat → Prop} {w : World} {b : Nat} {T : TypeId} {cs : Array Value} (ns : List ByteArray) (h : w.heap[b]? = some (.cells cs T (0, 0))) (e : cs = (ns.map Value.string).toArray) (hS : S b) (hn : ns.length ≤ maxLen) (hs : ∀ s, s ∈ ns → s.size ≤ maxLen - 2) : StrsIn S w (.slice (some ⟨b, 0, none⟩) ns.length ns.length) ns :=
  ⟨_, _, rfl, Nat.le_refl _, hn, fun j s hj => ⟨b, 0, rfl, hS, by have := cells_lits ns h e j s hj; rw [Nat.zero_add]; exact this, hs s (List.mem_of_getElem? hj)⟩⟩
/-- A slice of nodes that stands in one block. -/
theorem nodes_of_block {d : Nat} {S : Nat → Prop} {w : World} {b : Nat} {T : TypeId} {cs : Array Value} (A : List NC) (h : w.heap[b]? = some (.cells cs T (0, 0))) (e : cs = (nCells A).toArray) (hS : S b) (hn : A.length ≤ maxLen) (hA : ∀ y, y ∈ A → NodeIn d S w y.1 y.2) : NodesIn (NodeIn d S w) S w (.slice (some ⟨b, 0, none⟩) A.length A.length) (nodesOf A) := by
  have hl : (nodesOf A).length = A.length := by simp [nodesOf]
  refine ⟨some ⟨b, 0, none⟩, A.length, by rw [hl], by rw [hl]; exact Nat.le_refl _, hn, fun j x hj => ?_⟩
  have hj' : j < A.length := by have := lt_of_some hj; omega
  have ej : A[j]? = some (A[j].1, A[j].2) := by rw [List.getElem?_eq_getElem hj']
  have hx : x = A[j].2 := by
    rw [nodesOf, List.getElem?_map, ej] at hj
    exact (Option.some.inj hj).symm
  subst hx
  refine ⟨b, 0, A[j].1, rfl, hS, fun f u hu => ?_, hA _ (List.getElem_mem hj')⟩
  have := cells_lit _ h e _ _ (nCells_at (fun y hy => (hA y hy).len) ej f u hu)
  rw [Nat.zero_add]; exact this
def sA : ByteArray := { data := #[97] }
def sB : ByteArray := { data := #[98] }
def sX : ByteArray := { data := #[120] }
def num (z : Int) : ND := .mk 2 false z ⟨#[]⟩ [] []
def txt (s : ByteArray) : ND := .mk 3 false 0 s [] []
def awkM : ND := .mk 5 false 0 ⟨#[]⟩ [sA, sB] [num 1, txt sX]
def awkP : ND := .mk 5 false 0 ⟨#[]⟩ [sA, sB] [num 2, txt sX]
theorem awk_valid : validN 8 awkM = true := by decide +kernel
theorem awk_two : validN 7 (num 2) = true := by decide +kernel
theorem awk_find : [sA, sB].findIdx? (fun t => decide (t = sA)) = some 0 := by decide +kernel
theorem awk_put : putN awkM sA (num 2) = awkP := by
  unfold putN
  rw [show awkM.names = [sA, sB] from rfl, awk_find]; rfl
theorem awk_pvalid : validN 8 awkP = true := by decide +kernel
/-- The cells of the literals. -/
theorem num_in (S : Nat → Prop) (w : World) (z : Int) : NodeIn 1 S w [.int .i64 2, .bool false, .int .i64 z, .string ⟨#[]⟩, .slice none 0 0, .slice none 0 0] (num z) := node_leaf S w 2 false z ⟨#[]⟩ (by decide)
theorem txt_in (S : Nat → Prop) (w : World) (s : ByteArray) (hs : s.size ≤ maxLen - 2) : NodeIn 1 S w [.int .i64 3, .bool false, .int .i64 0, .string s, .slice none 0 0, .slice none 0 0] (txt s) := node_leaf S w 3 false 0 s hs
theorem awk_map (w1 w3 : World) (b : Nat) (T : TypeId) (hb : w1.heap[b]? = some (.cells #[.string sA, .string sB] 9 (0, 0))) (h13 : Below w1.heap.size w1 w3) :
    Calls Tryd.prog 27 #[.slice (some ⟨b, 0, none⟩) 2 2, .slice (some ⟨w3.heap.size, 0, none⟩) 2 2] (w3.alloc (.cells #[.int .i64 2, .bool false, .int .i64 1, .string ⟨#[]⟩, .slice none 0 0, .slice none 0 0, .int .i64 3, .bool false, .int .i64 0, .string sX, .slice none 0 0, .slice none 0 0] T)) (fun e w' => (∃ cs : List Value, e = .returned (.agg cs.toArray) ∧ NodeIn 2 (fun b => w3.heap.size ≤ b ∧ b < w'.heap.size) w' cs awkM) ∧ Below w3.heap.size w3 w') := by
  obtain ⟨w4, hw4⟩ : ∃ W, W = w3.alloc (.cells #[.int .i64 2, .bool false, .int .i64 1, .string ⟨#[]⟩, .slice none 0 0, .slice none 0 0, .int .i64 3, .bool false, .int .i64 0, .string sX, .slice none 0 0, .slice none 0 0] T) := ⟨_, rfl⟩
  have hk := heap_alloc_new w3 (.cells #[.int .i64 2, .bool false, .int .i64 1, .string ⟨#[]⟩, .slice none 0 0, .slice none 0 0, .int .i64 3, .bool false, .int .i64 0, .string sX, .slice none 0 0, .slice none 0 0] T)
  have b4 := (Below.refl w3.heap.size w3).alloc (o := .cells #[.int .i64 2, .bool false, .int .i64 1, .string ⟨#[]⟩, .slice none 0 0, .slice none 0 0, .int .i64 3, .bool false, .int .i64 0, .string sX, .slice none 0 0, .slice none 0 0] T) (Nat.le_refl _)
  have hz : w4.heap.size = w3.heap.size + 1 := by rw [hw4]; simp
  rw [← hw4] at hk b4 ⊢
  have hb4 : w4.heap[b]? = some (.cells #[.string sA, .string sB] 9 (0, 0)) := (b4.block b (Nat.lt_of_lt_of_le (lt_of_block hb) h13.size)).trans ((h13.block b (lt_of_block hb)).trans hb)
  refine (nmap_any 1 (fun b => b < w4.heap.size) _ _ [sA, sB] [num 1, txt sX] w4 (nodes_of_block [([.int .i64 2, .bool false, .int .i64 1, .string ⟨#[]⟩, .slice none 0 0, .slice none 0 0], num 1), ([.int .i64 3, .bool false, .int .i64 0, .string sX, .slice none 0 0, .slice none 0 0], txt sX)] hk rfl (lt_of_block hk) (by decide) ?_) (strs_of_block [sA, sB] hb4 rfl (lt_of_block hb4) (by decide) ?_) (fun b hb => hb) (by decide) (by decide) ?_).mono ?_
  · intro y hy
    rcases List.mem_cons.1 hy with rfl | hy
    · exact num_in _ _ 1
    · cases List.mem_singleton.1 hy; exact txt_in _ _ sX (by decide)
  · intro s hs
    rcases List.mem_cons.1 hs with rfl | hs
    · decide
    · cases List.mem_singleton.1 hs; decide
  · intro y hy
    rcases List.mem_cons.1 hy with rfl | hy
    · exact ⟨Nat.zero_le _, Nat.zero_le _, fun y hy => by cases hy⟩
    · cases List.mem_singleton.1 hy; exact ⟨Nat.zero_le _, Nat.zero_le _, fun y hy => by cases hy⟩
  · rintro e w' ⟨cs, rfl, hn, hb'⟩
    exact ⟨⟨cs, rfl, hn.mono fun b hb => ⟨by have := hb.1; omega, hb.2.1⟩⟩, b4.trans (hb'.mono b4.size)⟩
set_option maxHeartbeats 1600000 in
set_option maxRecDepth 100000 in
theorem awake5_any (w : World) (hT : Utab w) : Calls Tryd.prog 9 #[] w fun e w' => e = .returned (.bool true) ∧ Below w.heap.size w w' := by
  have HT := Lib.hid hT
  have b1 := (Below.refl w.heap.size w).alloc (o := .cells #[.string { data := #[97] }, .string { data := #[98] }] 9) (Nat.le_refl _)
  have h1 := heap_alloc_new w (.cells #[.string { data := #[97] }, .string { data := #[98] }] 9)
  have MM := Lib.hid (fun (w3 : World) (hb : Below (w.alloc (.cells #[.string { data := #[97] }, .string { data := #[98] }] 9)).heap.size (w.alloc (.cells #[.string { data := #[97] }, .string { data := #[98] }] 9)) w3) => awk_map _ w3 w.heap.size 26 h1 hb)
  have B1 := Lib.hid b1
  clear hT h1 b1
  go_enter Tryd.func9, Tryd.ntmps9
  go_upto_region 2 with (first
    | (go_at_call 23; (with_reducible refine (nnum_any 1 _).mono ?_); rintro e w2 ⟨rfl, hb2⟩)
    | (go_at_call 22; (with_reducible refine (ntext_any _ _).mono ?_); rintro e w3 ⟨rfl, hb3⟩)
    | (go_at_call 27; refine (MM.out w3 (hb2.trans (hb3.mono hb2.size))).mono ?_; rintro e w5 ⟨⟨cs, rfl, hm⟩, hb5⟩; obtain ⟨a1, l1, c1, a2, l2, c2, rfl⟩ : ∃ a1 l1 c1 a2 l2 c2, cs = [.int .i64 5, .bool false, .int .i64 0, .string ⟨#[]⟩, .slice a1 l1 c1, .slice a2 l2 c2] := hm.slices; (have hk := heap_alloc_new w5 (.cells #[.int .i64 0, .bool false, .int .i64 0, .string ⟨#[]⟩, .slice none 0 0, .slice none 0 0] 26)); (have f3 := free_six hk); (have c3 := six_of hk); clear hk))
  have hput := heap_alloc_new w5 (.cells #[.int .i64 5, .bool false, .int .i64 0, .string ⟨#[]⟩, .slice a1 l1 c1, .slice a2 l2 c2] 26)
  have b6 := (Below.refl w5.heap.size w5).alloc (o := .cells #[.int .i64 5, .bool false, .int .i64 0, .string ⟨#[]⟩, .slice a1 l1 c1, .slice a2 l2 c2] 26) (Nat.le_refl _)
  generalize hW6 : w5.alloc (.cells #[.int .i64 5, .bool false, .int .i64 0, .string ⟨#[]⟩, .slice a1 l1 c1, .slice a2 l2 c2] 26) = W6 at hput b6 ⊢
  have e5 : ∀ b, b < w5.heap.size → W6.heap[b]? = w5.heap[b]? := fun b hb => b6.block b hb
  have B6 : Below w.heap.size w W6 := by
    have q1 := B1.out.trans ((hb2.trans ((hb3.mono hb2.size).trans ((hb5.mono hb3.size).mono hb2.size))).mono B1.out.size)
    have q2 := hb5.size
    have q3 := q1.size
    exact q1.trans (b6.mono q3)
  have hm6 : NodeIn 2 (fun b => b < w5.heap.size) W6 [.int .i64 5, .bool false, .int .i64 0, .string ⟨#[]⟩, .slice a1 l1 c1, .slice a2 l2 c2] awkM := (hm.mono fun b hb => hb.2).same e5
  have z6 : w5.heap.size < W6.heap.size := lt_of_block hput
  clear hm hb2 hb3 hb5 e5 c3 f3 hW6 b6 B1 MM
  have M6 := Lib.hid hm6
  have P6 := Lib.hid hput
  clear hm6 hput
  have CK := Lib.hid (fun (wx : World) (hb : Below W6.heap.size W6 wx) => six_of ((hb.block _ (lt_of_block P6.out)).trans P6.out))
  have hbd : Below W6.heap.size W6 W6.drew := (Below.refl _ _).drew
  refine wp_region_plan (fun w' => w'.cell? ⟨w5.heap.size, 0, none⟩ = some (.int .i64 5) ∧ w'.cell? ⟨w5.heap.size, 1, none⟩ = some (.bool false) ∧ w'.cell? ⟨w5.heap.size, 2, none⟩ = some (.int .i64 0) ∧ w'.cell? ⟨w5.heap.size, 3, none⟩ = some (.string ⟨#[]⟩) ∧ w'.cell? ⟨w5.heap.size, 4, none⟩ = some (.slice a1 l1 c1) ∧ w'.cell? ⟨w5.heap.size, 5, none⟩ = some (.slice a2 l2 c2)) [0] (.take 0 (Plan.join true (.ask 1 true (.ask 2 false (.take 3 (.take 4 (.take 5 (.ask 6 false .stop .stop)))) (.ask 6 true (.ask 2 false (.take 3 (.take 4 (.take 5 .stop))) .stop) .stop)) (.ask 6 true (.ask 1 true (.ask 2 false (.take 3 (.take 4 (.take 5 .stop))) .stop) .stop) .stop)) (.ask 7 false (.ask 8 false .stop .stop) .stop))) (by kernel_rfl) (by kernel_rfl) (fun _ d _ _ _ h => by cases d <;> exact h) (CK.out _ hbd) ?_
  generalize W6.drew = wd at hbd ⊢
  have PP := Lib.hid (fun (wx : World) (hb : Below W6.heap.size W6 wx) => put_any _ [.int .i64 2, .bool false, .int .i64 2, .string ⟨#[]⟩, .slice none 0 0, .slice none 0 0] awkM (num 2) sA wx (M6.out.same fun b hb' => hb.block b (Nat.lt_trans hb' z6)) (num_in (fun b => b < w5.heap.size) wx 2) (fun b hb' => Nat.lt_of_lt_of_le (Nat.lt_trans hb' z6) hb.size) (HT.out.below (B6.trans (hb.mono B6.size))) ((mapOk_iff rfl).1 awk_valid) awk_two (by rw [awk_put]; exact awk_pvalid) (by decide))
  rw [awk_put] at PP
  refine take_held _ ?_ rfl rfl (by decide) ?_ (fun K hK => ?_); rotate_left; (intro w0 hw0; go_simp; (try rfl)); (go_simp; refine hK _ ?_; clear hK K)
  refine plan_cut [2, 9, 11, 12, 13, 14] (fun vs wx => ∃ (gb : Nat) (v1 v2 : Value), vs = [.pointer (some ⟨gb, 0, none⟩), .tuple #[.agg #[.int .i64 5, .bool false, .int .i64 0, .string ⟨#[]⟩, v1, v2], .int .i64 0], .agg #[.int .i64 2, .bool false, .int .i64 2, .string ⟨#[]⟩, .slice none 0 0, .slice none 0 0], .tuple #[.agg #[.int .i64 5, .bool false, .int .i64 0, .string ⟨#[]⟩, v1, v2], .int .i64 0], .agg #[.int .i64 5, .bool false, .int .i64 0, .string ⟨#[]⟩, v1, v2], .int .i64 0] ∧ W6.heap.size ≤ gb ∧ wx.heap[gb]? = some (.cells #[.int .i64 0, .bool false, .int .i64 0, .string ⟨#[]⟩, .slice none 0 0, .slice none 0 0] 26 (0, 0)) ∧ NodeIn 2 (fun b => b ≠ gb ∧ W6.heap.size ≤ b ∧ b < wx.heap.size) wx [.int .i64 5, .bool false, .int .i64 0, .string ⟨#[]⟩, v1, v2] awkP ∧ Below W6.heap.size W6 wx) ?_ ?_

  · refine ask_step _ rfl ?_ ?_
    rotate_left
    · go_wp2_with (go_at_call 23; (with_reducible refine (nnum_any 2 _).mono ?_); rintro e W2 ⟨rfl, hb2⟩)
      have B2 := hbd.trans (hb2.mono hbd.size)
      refine Seg.mk ⟨CK.out _ B2, ?_⟩
      refine ask_late _ rfl ?_ ?_
      rotate_left
      · go_wp2_with (go_at_call 15; refine (PP.out _ B2).mono ?_; rintro e W3 ⟨v1, v2, rfl, hnn, hb3⟩)
        have B3 := B2.trans (hb3.mono B2.size)
        refine Seg.mk ?_
        refine take_any _ ?_ rfl rfl ?_ (fun K hK => ?_); rotate_left; (intro w0; go_simp; (try rfl)); (go_simp; refine hK _ ?_; clear hK K)
        refine take_any _ ?_ rfl rfl ?_ (fun K hK => ?_); rotate_left; (intro w0; go_simp; (try rfl)); (go_simp; refine hK _ ?_; clear hK K)
        refine take_any _ ?_ rfl rfl ?_ (fun K hK => ?_); rotate_left; (intro w0; go_simp; (try rfl)); (go_simp; refine hK _ ?_; clear hK K)
        have bz := (Below.refl W3.heap.size W3).alloc (o := (.cells #[.int .i64 0, .bool false, .int .i64 0, .string ⟨#[]⟩, .slice none 0 0, .slice none 0 0] 26)) (Nat.le_refl _)
        have gz := heap_alloc_new W3 (.cells #[.int .i64 0, .bool false, .int .i64 0, .string ⟨#[]⟩, .slice none 0 0, .slice none 0 0] 26)
        refine ask_late _ rfl trivial ?_
        go_wp2_with fail
        generalize hW : W3.alloc (.cells #[.int .i64 0, .bool false, .int .i64 0, .string ⟨#[]⟩, .slice none 0 0, .slice none 0 0] 26) = W7 at bz gz ⊢
        clear hW
        have B7 := B3.trans (bz.mono B3.size)
        have s2 := B2.size; have s3 := hb3.size; have s7 := bz.size
        refine Seg.mk ?_
        exact plan_meet [.pointer (some ⟨W3.heap.size, 0, none⟩), .tuple #[.agg #[.int .i64 5, .bool false, .int .i64 0, .string ⟨#[]⟩, v1, v2], .int .i64 0], .agg #[.int .i64 2, .bool false, .int .i64 2, .string ⟨#[]⟩, .slice none 0 0, .slice none 0 0], .tuple #[.agg #[.int .i64 5, .bool false, .int .i64 0, .string ⟨#[]⟩, v1, v2], .int .i64 0], .agg #[.int .i64 5, .bool false, .int .i64 0, .string ⟨#[]⟩, v1, v2], .int .i64 0] ⟨_, _, _, rfl, B3.size, gz, (hnn.same fun b hb => bz.block b hb.2.1).mono fun b hb => by have p1 := hb.1; have p2 := hb.2.1; exact ⟨by omega, by omega, by omega⟩, B7⟩ rfl
      · have bz := (Below.refl W2.heap.size W2).alloc (o := (.cells #[.int .i64 0, .bool false, .int .i64 0, .string ⟨#[]⟩, .slice none 0 0, .slice none 0 0] 26)) (Nat.le_refl _)
        have gz := heap_alloc_new W2 (.cells #[.int .i64 0, .bool false, .int .i64 0, .string ⟨#[]⟩, .slice none 0 0, .slice none 0 0] 26)
        refine ask_step _ rfl trivial ?_
        go_wp2_with fail
        generalize hW : W2.alloc (.cells #[.int .i64 0, .bool false, .int .i64 0, .string ⟨#[]⟩, .slice none 0 0, .slice none 0 0] 26) = W7 at bz gz ⊢
        clear hW
        have B7 := B2.trans (bz.mono B2.size)
        refine Seg.mk ⟨CK.out _ B7, ?_⟩
        refine ask_late _ rfl trivial ?_
        go_wp2_with (go_at_call 15; refine (PP.out _ B7).mono ?_; rintro e W3 ⟨v1, v2, rfl, hnn, hb3⟩)
        have B3 := B7.trans (hb3.mono B7.size)
        refine Seg.mk ?_
        refine take_any _ ?_ rfl rfl ?_ (fun K hK => ?_); rotate_left; (intro w0; go_simp; (try rfl)); (go_simp; refine hK _ ?_; clear hK K)
        refine take_any _ ?_ rfl rfl ?_ (fun K hK => ?_); rotate_left; (intro w0; go_simp; (try rfl)); (go_simp; refine hK _ ?_; clear hK K)
        refine take_any _ ?_ rfl rfl ?_ (fun K hK => ?_); rotate_left; (intro w0; go_simp; (try rfl)); (go_simp; refine hK _ ?_; clear hK K)
        have hgl := lt_of_block gz
        have s2 := B2.size; have s3 := hb3.size; have s7 := bz.size
        exact plan_meet [.pointer (some ⟨W2.heap.size, 0, none⟩), .tuple #[.agg #[.int .i64 5, .bool false, .int .i64 0, .string ⟨#[]⟩, v1, v2], .int .i64 0], .agg #[.int .i64 2, .bool false, .int .i64 2, .string ⟨#[]⟩, .slice none 0 0, .slice none 0 0], .tuple #[.agg #[.int .i64 5, .bool false, .int .i64 0, .string ⟨#[]⟩, v1, v2], .int .i64 0], .agg #[.int .i64 5, .bool false, .int .i64 0, .string ⟨#[]⟩, v1, v2], .int .i64 0] ⟨_, _, _, rfl, B2.size, (hb3.block _ hgl).trans gz, hnn.mono fun b hb => by have p1 := hb.1; have p2 := hb.2.1; exact ⟨by omega, by omega, by omega⟩, B3⟩ rfl
    · have bz := (Below.refl wd.heap.size wd).alloc (o := (.cells #[.int .i64 0, .bool false, .int .i64 0, .string ⟨#[]⟩, .slice none 0 0, .slice none 0 0] 26)) (Nat.le_refl _)
      have gz := heap_alloc_new wd (.cells #[.int .i64 0, .bool false, .int .i64 0, .string ⟨#[]⟩, .slice none 0 0, .slice none 0 0] 26)
      refine ask_step _ rfl trivial ?_
      go_wp2_with fail
      generalize hW : wd.alloc (.cells #[.int .i64 0, .bool false, .int .i64 0, .string ⟨#[]⟩, .slice none 0 0, .slice none 0 0] 26) = W7 at bz gz ⊢
      clear hW
      have B7 := hbd.trans (bz.mono hbd.size)
      refine Seg.mk ⟨CK.out _ B7, ?_⟩
      refine ask_step _ rfl trivial ?_
      go_wp2_with (go_at_call 23; (with_reducible refine (nnum_any 2 _).mono ?_); rintro e W2 ⟨rfl, hb2⟩)
      have B2 := B7.trans (hb2.mono B7.size)
      refine Seg.mk ⟨CK.out _ B2, ?_⟩
      refine ask_late _ rfl trivial ?_
      go_wp2_with (go_at_call 15; refine (PP.out _ B2).mono ?_; rintro e W3 ⟨v1, v2, rfl, hnn, hb3⟩)
      have B3 := B2.trans (hb3.mono B2.size)
      refine Seg.mk ?_
      refine take_any _ ?_ rfl rfl ?_ (fun K hK => ?_); rotate_left; (intro w0; go_simp; (try rfl)); (go_simp; refine hK _ ?_; clear hK K)
      refine take_any _ ?_ rfl rfl ?_ (fun K hK => ?_); rotate_left; (intro w0; go_simp; (try rfl)); (go_simp; refine hK _ ?_; clear hK K)
      refine take_any _ ?_ rfl rfl ?_ (fun K hK => ?_); rotate_left; (intro w0; go_simp; (try rfl)); (go_simp; refine hK _ ?_; clear hK K)
      have hgl := lt_of_block gz
      have s1 := hbd.size; have s2 := hb2.size; have s3 := hb3.size; have s7 := bz.size
      exact plan_meet [.pointer (some ⟨wd.heap.size, 0, none⟩), .tuple #[.agg #[.int .i64 5, .bool false, .int .i64 0, .string ⟨#[]⟩, v1, v2], .int .i64 0], .agg #[.int .i64 2, .bool false, .int .i64 2, .string ⟨#[]⟩, .slice none 0 0, .slice none 0 0], .tuple #[.agg #[.int .i64 5, .bool false, .int .i64 0, .string ⟨#[]⟩, v1, v2], .int .i64 0], .agg #[.int .i64 5, .bool false, .int .i64 0, .string ⟨#[]⟩, v1, v2], .int .i64 0] ⟨_, _, _, rfl, hbd.size, (hb3.block _ (Nat.lt_of_lt_of_le hgl s2)).trans ((hb2.block _ hgl).trans gz), hnn.mono fun b hb => by have p1 := hb.1; have p2 := hb.2.1; exact ⟨by omega, by omega, by omega⟩, B3⟩ rfl
  · rintro vs w' ⟨gb, v1, v2, rfl, hgb, hgz, hnp, hb'⟩
    obtain ⟨g1, m1, k1, g2, m2, k2, e⟩ := hnp.slices
    simp only [List.cons.injEq, and_true, true_and] at e
    obtain ⟨-, -, -, -, rfl, rfl⟩ := e
    simp only [puts, Act.put, List.setIfInBounds_toArray, List.set_cons_zero, List.set_cons_succ]
    have f9 := free_six hgz
    have c9 := six_of hgz
    refine ask_late _ rfl trivial ?_; go_wp2_with fail; refine Seg.mk ?_
    have hput := six_put hgz (.int .i64 5) (.bool false) (.int .i64 0) (.string ⟨#[]⟩) (.slice g1 m1 k1) (.slice g2 m2 k2)
    have hgf := grown_set6 w' gb (.int .i64 5) (.bool false) (.int .i64 0) (.string ⟨#[]⟩) (.slice g1 m1 k1) (.slice g2 m2 k2)
    obtain ⟨W7, hW7⟩ : ∃ W, W = set6 w' gb (.int .i64 5) (.bool false) (.int .i64 0) (.string ⟨#[]⟩) (.slice g1 m1 k1) (.slice g2 m2 k2) := ⟨_, rfl⟩
    rw [← hW7] at hput hgf
    simp only [set6] at hW7
    rw [← hW7]
    clear hW7
    have hnp7 := hnp.same (w' := W7) fun b hb => hgf.block b hb.2.2 (by intro e; exact hb.1 (Option.some.inj e))
    have B7 : Below W6.heap.size W6 W7 := ⟨hgf.os.trans hb'.os, hgf.tape.trans hb'.tape, hgf.output.trans hb'.output, Nat.le_trans hb'.size hgf.size, fun b hb => (hgf.block b (Nat.lt_of_lt_of_le hb hb'.size) (by intro e; have := Option.some.inj e; omega)).trans (hb'.block b hb)⟩
    obtain ⟨vn, vi, e, -, hns, his⟩ := hnp7
    simp only [List.cons.injEq, and_true, true_and] at e
    obtain ⟨-, -, -, -, rfl, rfl⟩ := e
    obtain ⟨x1, y1, e1, p1, p2, p3⟩ := hns
    cases e1
    obtain ⟨b1, o1, rfl, s1, q1, -⟩ := p3 0 sA rfl
    obtain ⟨x2, y2, e2, r1, r2, r3⟩ := his
    cases e2
    obtain ⟨b2, o2, cs2, rfl, s2, q2, q3⟩ := r3 0 (num 2) rfl
    obtain ⟨vn2, vi2, rfl, -⟩ := q3
    have q2' := q2 2 (.int .i64 2) rfl
    simp only [Nat.add_zero, Nat.zero_mul] at q1 q2'
    have l1 := lt_of_block hput
    have FF := Lib.hid (fun (wx : World) (hb : Below W7.heap.size W7 wx) => And.intro (six_of ((hb.block _ (lt_of_block hput)).trans hput)) (And.intro ((cell_same (hb.block b1 (Nat.lt_of_lt_of_le s1.2.2 hgf.size))).trans q1) ((cell_same (hb.block b2 (Nat.lt_of_lt_of_le s2.2.2 hgf.size))).trans q2')))
    have VV := Lib.hid (isvalid_any _ awkM W7 (M6.out.same fun b hb => B7.block b (Nat.lt_trans hb z6)) (fun b hb => Nat.lt_of_lt_of_le (Nat.lt_trans hb z6) B7.size) (lowN_of_valid 8 2 awkM awk_valid) (HT.out.below (B6.trans (B7.mono B6.size))))
    rw [awk_valid] at VV
    have ck := CK.out _ B7
    have hsa : (sA.toList == [97]) = true := by decide +kernel
    clear hput hgf hnp hb' hgz f9 c9 q1 q2 q2' p3 r3 hbd CK PP
    refine ask_last _ rfl trivial ?_
    go_wp2_with (go_at_call 8; (with_reducible refine (VV.out).mono ?_); rintro e W8 ⟨rfl, hb8⟩; obtain ⟨⟨-, -, -, -, u4, u5⟩, u6, u7⟩ := FF.out _ hb8)
    go_ret
    refine ⟨?_, B6.trans ((B7.trans (hb8.mono B7.size)).mono B6.size)⟩
    rfl
end Go.Proofs.YthcgkkafbobfoaaDoor
