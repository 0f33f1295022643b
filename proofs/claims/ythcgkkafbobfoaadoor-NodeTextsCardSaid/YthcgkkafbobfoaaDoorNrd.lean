/- ReadTexts, on a list. -/
import Derived.Test.YthcgkkafbobfoaaDoorNput
namespace Go.Proofs.YthcgkkafbobfoaaDoor
open Go Go.ChangeShapes Go.WideShapes Go.ChangeAt Go.RowKit
set_option linter.unusedVariables false
set_option linter.unusedSimpArgs false

/-- What ReadTexts hands out: the texts in a row of its own, if all items are texts. -/
def ReadNew (w : World) (its : List ND) (e : Ending) (w' : World) : Prop :=
  ((∃ v, e = .returned (.tuple #[v, .bool true]) ∧ (∀ y, y ∈ its → y.kind = 3) ∧ SRow 9 w.heap.size w' v (its.map ND.text)) ∨ (e = .returned (.tuple #[.slice none 0 0, .bool false]) ∧ ∃ y, y ∈ its ∧ y.kind ≠ 3)) ∧ Below w.heap.size w w'
/-- A string more in an own row of strings. -/
theorem SRow.form {TS : TypeId} {b : Nat} {w : World} {v : Value} {ns : List ByteArray} (h : SRow TS b w v ns) : ∃ a c, v = .slice a ns.length c := by obtain ⟨a, c, e, _⟩ := h.strs; exact ⟨a, c, e⟩
set_option maxHeartbeats 1600000 in
set_option maxRecDepth 100000 in
theorem rtexts_any {d : Nat} {S : Nat → Prop} (cs : List Value) (x : ND) (w : World) (h : NodeIn (d + 1) S w cs x) (hS : ∀ b, S b → b < w.heap.size) (hk : x.kind = 4) (hl : x.items.length ≤ 1000000) :
    Calls Tryd.prog 19 #[.agg cs.toArray] w (ReadNew w x.items) := by
  obtain ⟨iq, hiq, hy0, hy1, hy2⟩ := infos
  have hus := Tryd.underlying23
  have HIQ := Lib.hid hiq
  obtain ⟨a1, l1, c1, a2, l2, c2, rfl⟩ := h.slices
  rw [hk] at h ⊢
  obtain ⟨vn, vi, e, -, -, his⟩ := h
  simp only [List.cons.injEq, and_true, true_and] at e
  obtain ⟨-, rfl, rfl⟩ := e
  obtain ⟨w1, hw1⟩ : ∃ W, W = w.alloc (.cells #[.int .i64 4, .bool x.bool, .int .i64 x.num, .string x.text, .slice a1 l1 c1, .slice a2 l2 c2] 26) := ⟨_, rfl⟩
  have b1 : Below w.heap.size w w1 := by rw [hw1]; exact (Below.refl _ _).alloc (Nat.le_refl _) _
  have k0 : w1.heap[w.heap.size]? = some (.cells #[.int .i64 4, .bool x.bool, .int .i64 x.num, .string x.text, .slice a1 l1 c1, .slice a2 l2 c2] 26 (0, 0)) := by rw [hw1]; exact heap_alloc_new _ _
  have c0 := six_of k0
  obtain ⟨its, hits⟩ : ∃ its, its = x.items := ⟨_, rfl⟩
  rw [← hits] at his hl ⊢
  have hl2 : l2 = its.length := by obtain ⟨_, _, e, -⟩ := his; cases e; rfl
  subst hl2
  have H := Lib.hid his
  have HS := Lib.hid hS
  have HB1 := Lib.hid b1
  have HL := Lib.hid hl
  clear his hS b1 k0 hits hk hl hiq
  go_enter Tryd.func19, Tryd.ntmps19
  go_upto_region 1 with fail
  rw [← hw1]
  clear hw1
  go_upto_region 5 with fail
  go_loopw [4, 13] (fun v i wr => ∃ j : Nat, i = .int .i64 j ∧ j ≤ its.length ∧ SRow 9 w.heap.size wr v ((its.take j).map ND.text) ∧ (∀ y, y ∈ its.take j → y.kind = 3) ∧ Below w.heap.size w wr) (fun _ i _ => its.length - (intOf i).toNat)
  case atStart => exact ⟨0, rfl, Nat.zero_le _, SRow.nil _ _ _, (fun y hy => by cases hy), HB1.out⟩
  case round =>
    clear c0
    obtain ⟨j, rfl, hj, hrow, hall, hB⟩ := hrel
    by_cases hlt : j < its.length
    · have hlt' : (j : Int) < (its.length : Int) := by omega
      have HLT := Lib.hid hlt
      have hjm : (its.length : Int) ≤ 1000000 := by have := HL.out; omega
      have hj0 : (0 : Int) ≤ (j : Int) := by omega
      obtain ⟨-, -, -, b, off, y, b1, m1, n1, b2, m2, n2, rfl, hSb, hx, hnd, q0, q1, q2, q3, q4, q5⟩ := H.out.at hlt
      have hbw := HS.out b hSb
      have r0 := (hB.cell (p := ⟨b, off + j * 6, none⟩) hbw).trans q0
      have r1 := (hB.cell (p := ⟨b, off + j * 6 + 1, none⟩) hbw).trans q1
      have r2 := (hB.cell (p := ⟨b, off + j * 6 + 2, none⟩) hbw).trans q2
      have r3 := (hB.cell (p := ⟨b, off + j * 6 + 3, none⟩) hbw).trans q3
      have r4 := (hB.cell (p := ⟨b, off + j * 6 + 4, none⟩) hbw).trans q4
      have r5 := (hB.cell (p := ⟨b, off + j * 6 + 5, none⟩) hbw).trans q5
      clear q0 q1 q2 q3 q4 q5
      have HX := Lib.hid hx
      have HALL := Lib.hid hall
      have hts : y.text.size ≤ maxLen - 2 := by
        cases d with
        | zero => exact hnd.elim
        | succ d => obtain ⟨_, _, _, ht, _⟩ := hnd; exact ht
      have HTS := Lib.hid hts
      obtain ⟨ns, hns⟩ : ∃ ns, ns = (its.take j).map ND.text := ⟨_, rfl⟩
      rw [← hns] at hrow
      have hnl : ns.length < 1000000 := by
        rw [hns, List.length_map, List.length_take]; have := HL.out; omega
      have HNS := Lib.hid hns
      obtain ⟨ar, cr, hv⟩ := hrow.form
      subst hv
      have bA := (Below.refl wr.heap.size wr).alloc (o := .cells #[.int .i64 y.kind, .bool y.bool, .int .i64 y.num, .string y.text, .slice b1 m1 n1, .slice b2 m2 n2] 26) (Nat.le_refl _)
      have kA := heap_alloc_new wr (.cells #[.int .i64 y.kind, .bool y.bool, .int .i64 y.num, .string y.text, .slice b1 m1 n1, .slice b2 m2 n2] 26)
      have HROW := Lib.hid hrow
      have HB := Lib.hid hB
      clear hx hall hnd hns hts hrow hB
      go_upto_region 7 with fail
      clear r0 r1 r2 r3 r4 r5
      generalize wr.alloc (.cells #[.int .i64 y.kind, .bool y.bool, .int .i64 y.num, .string y.text, .slice b1 m1 n1, .slice b2 m2 n2] 26) = wa at bA kA ⊢
      have ca := six_of kA
      by_cases hk3 : y.kind = 3
      · have hk3' : (y.kind != 3) = false := by simp [hk3]
        have bS := (Below.refl wa.heap.size wa).alloc (o := .cells #[.string y.text] 9) (Nat.le_refl _)
        have kS := heap_alloc_new wa (.cells #[.string y.text] 9)
        have hrowS := (HROW.out.below bA).below bS
        have hbS : Below w.heap.size w (wa.alloc (.cells #[.string y.text] 9)) := HB.out.trans ((bA.trans (bS.mono bA.size)).mono HB.out.size)
        have HRS := Lib.hid hrowS
        have HBS := Lib.hid hbS
        have HKS := Lib.hid (cells_new wa #[.string y.text] 9 [.string y.text] rfl)
        have HK3 := Lib.hid hk3
        clear bS kS hrowS hbS kA bA hk3
        go_upto_region 9 with fail
        go_upto_region 10 with ((refine wpList_append_lies _ rfl (.tmp 20) (.tmp 23) 23 rfl w.heap.size 9 iq (.string ⟨#[]⟩) 1 16 hus HIQ.out hy0 hy1 hy2 rfl (by decide) (.slice ar ns.length cr) ns.length _ rfl HRS.out.1 ⟨wa.heap.size, 0, none⟩ 1 1 [.string y.text] rfl rfl HKS.out (by intro u hu; simp at hu; subst hu; rfl) (by decide) (by unfold maxLen; omega) (by omega) HBS.out.size _ rfl ?_); intro gg cc W8 hown hgrow hat hlt2)
        have hrow8 := HRS.out.push hown HTS.out
        have hB8 := obelow HBS.out HRS.out.1 hgrow HBS.out.size
        clear hown hgrow hat
        go_wp2
        go_roundw
        case rel =>
          refine ⟨j + 1, by go_num, by have := HLT.out; omega, ?_, ?_, hB8⟩
          · rw [take_snocN HX.out, List.map_append, ← HNS.out]; 
            have e : (ns ++ List.map ND.text [y]).length = ns.length + 1 := by simp
            exact hrow8
          · intro z hz
            rw [take_snocN HX.out] at hz
            rcases List.mem_append.1 hz with hz | hz
            · exact HALL.out z hz
            · cases List.mem_singleton.1 hz; exact HK3.out
        case measure => have := HLT.out; simp [intOf]; omega
      · have hk3' : (y.kind != 3) = true := by simp [hk3]
        have HK3 := Lib.hid hk3
        have hbA := HB.out.trans (bA.mono HB.out.size)
        clear hk3 bA kA
        go_wp2
        refine bodyPost_ret (v := .tuple #[.slice none 0 0, .bool false]) (by simp [results, Tryd.results19, go_sem]) rfl ?_
        exact ⟨.inr ⟨rfl, y, List.mem_of_getElem? HX.out, HK3.out⟩, hbA⟩
    · have hlt' : ¬ (j : Int) < (its.length : Int) := by omega
      have hjl : j = its.length := by omega
      rw [hjl, List.take_length] at hrow hall
      obtain ⟨ns, hns⟩ : ∃ ns, ns = its.map ND.text := ⟨_, rfl⟩
      rw [← hns] at hrow
      have HROW := Lib.hid hrow
      have HALL := Lib.hid hall
      have HB := Lib.hid hB
      have HNS := Lib.hid hns
      clear hjl hrow hall hB hns
      obtain ⟨ar, cr, hv⟩ := HROW.out.form
      subst hv
      go_wp2
      refine bodyPost_ret (v := .tuple #[.slice ar ns.length cr, .bool true]) (by simp [results, Tryd.results19, go_sem]) rfl ?_
      refine ⟨.inl ⟨_, rfl, ?_, ?_⟩, HB.out⟩
      · exact HALL.out
      · have := HROW.out; rw [HNS.out] at this ⊢; exact this
end Go.Proofs.YthcgkkafbobfoaaDoor
