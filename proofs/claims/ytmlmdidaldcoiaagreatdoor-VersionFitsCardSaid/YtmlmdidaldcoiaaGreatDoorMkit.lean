/- The kit's Node and Map, whatever the depth. -/
import Derived.Test.YtmlmdidaldcoiaaGreatDoorMpe
import Derived.Test.YtmlmdidaldcoiaaGreatDoorNnode
import Derived.Deep.CutRange
import Derived.BigQuiet
import Derived.Deep.QuietTactic
import Derived.Laws.BitsAllLaws
import Derived.Lib.EndianBits
namespace Go.Proofs.YtmlmdidaldcoiaaGreatDoor
set_option linter.unusedVariables false
theorem knode_any (B g : Nat) : ∀ n : Nat, 1 ≤ n → n < 100 → ∀ w : World, DiceAt B w g → Calls Tryz.prog 9 #[.pointer (some ⟨g, 0, none⟩), .int .i64 (n : Int)] w fun e w' => SomeNode n w e w' ∧ w.grownBy w' (some g) ∧ DiceAt B w' g
 | 0, h, _, _, _ => absurd h (by decide)
 | n + 1, h1, h2, w, hd => knode_step B g (n + 1) w h1 h2 hd fun h wx hx => by
  have := knode_any B g n (by omega) (by omega) wx hx
  rw [show ((n + 1 : Nat) : Int) - 1 = (n : Int) by omega, Nat.add_sub_cancel]
  exact this
theorem knode_litk (B g n : Nat) (z : Int) (hz : (n : Int) = z) (h1 : 1 ≤ n) (h2 : n < 100) (w : World) (hd : DiceAt B w g) : Calls Tryz.prog 9 #[.pointer (some ⟨g, 0, none⟩), .int .i64 z] w fun e w' => SomeNode n w e w' ∧ w.grownBy w' (some g) ∧ DiceAt B w' g := hz ▸ knode_any B g n h1 h2 w hd
theorem kmap_litk (B g n : Nat) (z : Int) (hz : (n : Int) = z) (h1 : 2 ≤ n) (h2 : n < 100) (w : World) (hd : DiceAt B w g) : Calls Tryz.prog 8 #[.pointer (some ⟨g, 0, none⟩), .int .i64 z] w fun e w' => SomeMapK n w e w' ∧ w.grownBy w' (some g) ∧ DiceAt B w' g :=
 hz ▸ kmap_any B g n w h1 h2 hd fun wx hx => by
  have := knode_any B g (n - 1) (by omega) (by omega) wx hx
  rw [show ((n - 1 : Nat) : Int) = (n : Int) - 1 by omega] at this
  exact this
end Go.Proofs.YtmlmdidaldcoiaaGreatDoor
/- The kit's nodes and the second serialisation. No program. -/
namespace Go.Proofs.YtmlmdidaldcoiaaGreatDoor
open Go.Lib
set_option linter.unusedVariables false
set_option linter.unusedSimpArgs false

theorem cnumsB_up : ∀ {d e : Nat} {x : ND}, d ≤ e → validN d x = true → numsB d x = true → numsB e x = true
 | 0, _, _, _, h, _ => by cases h
 | d + 1, 0, _, h, _, _ => by omega
 | d + 1, e + 1, x, hd, hv, hn => by
  rw [validN_succ, Bool.and_eq_true, List.all_eq_true] at hv
  rw [numsB_succ, Bool.and_eq_true, List.all_eq_true] at hn ⊢
  exact ⟨hn.1, fun y hy => cnumsB_up (by omega) (hv.2 y hy) (hn.2 y hy)⟩
/-- What is known of the kit's nodes. -/
structure KitC (x : ND) : Prop where
 err : csE x = 0
 txt : csS x = bC (writeC 8 x)
 len : (writeC 8 x).length ≤ 65536
 valid : validN 8 x = true
 nums : numsB 8 x = true
theorem KitC.ofc {d : Nat} {x : ND} (hd : d ≤ 4) (h : validW d x = true) (hc : costN d x ≤ 65536) : KitC x := by
 have h8 : validN 8 x = true := validN_mono (by omega) (validW_valid h)
 have hn8 : numsB 8 x = true := cnumsB_up (by omega) (validW_valid h) (validW_nums h)
 have hl : (writeC 8 x).length ≤ 65536 := by
  rw [writeC_same (e := d) (by omega) (validW_valid h)]
  have := writeC_cost d x (validW_valid h)
  omega
 obtain ⟨e1, e2⟩ := cse_good h8 (show ¬ 65536 < (writeC 8 x).length by omega)
 exact ⟨e2, e1, hl, h8, hn8⟩
end Go.Proofs.YtmlmdidaldcoiaaGreatDoor
/- The walk of the statement NodePuts. -/
namespace Go.Proofs.YtmlmdidaldcoiaaGreatDoor
open Go Go.ChangeShapes Go.WideShapes Go.ChangeAt Go.RowKit
set_option linter.unusedVariables false
set_option linter.unusedSimpArgs false

theorem MapOk.mono {d d' : Nat} {x : ND} (h : MapOk d x) (hd : d ≤ d') : MapOk d' x := { h with items := fun y hy => validN_mono hd (h.items y hy) }
theorem nod_grown {d g : Nat} {w w' : World} {cs : List Value} {x : ND} (h : NodeIn d (fun b => g < b ∧ b < w.heap.size) w cs x) (hg : w.grownBy w' (some g)) : NodeIn d (fun b => g < b ∧ b < w'.heap.size) w' cs x :=
 (h.same fun b hb => hg.block b hb.2 (by intro e; have := Option.some.inj e; have := hb.1; omega)).mono fun b hb => ⟨hb.1, Nat.lt_of_lt_of_le hb.2 hg.size⟩
end Go.Proofs.YtmlmdidaldcoiaaGreatDoor
/- The document's Encode of the third serialisation; what a node's bytes cost. -/
namespace Go.Proofs.YtmlmdidaldcoiaaGreatDoor
open Go Go.ChangeShapes Go.WideShapes Go.ChangeAt Go.RowKit
set_option linter.unusedVariables false
set_option linter.unusedSimpArgs false
/-- The bytes of a node, and the error. -/
def mpS (x : ND) : ByteArray := if validN 8 x then (if 65536 < (writeP 8 x).length then ⟨#[]⟩ else bC (writeP 8 x)) else ⟨#[]⟩
def mpE (x : ND) : Int := if validN 8 x then (if 65536 < (writeP 8 x).length then 3 else 0) else 1
theorem mpse_bad {x : ND} (h : validN 8 x = false) : mpS x = ⟨#[]⟩ ∧ mpE x = 1 := by unfold mpS mpE; rw [h]; exact ⟨rfl, rfl⟩
theorem mpse_long {x : ND} (h : validN 8 x = true) (hl : 65536 < (writeP 8 x).length) : mpS x = ⟨#[]⟩ ∧ mpE x = 3 := by unfold mpS mpE; rw [h, if_pos rfl, if_pos rfl, if_pos hl, if_pos hl]; exact ⟨rfl, rfl⟩
theorem mpse_good {x : ND} (h : validN 8 x = true) (hl : ¬ 65536 < (writeP 8 x).length) : mpS x = bC (writeP 8 x) ∧ mpE x = 0 := by unfold mpS mpE; rw [h, if_pos rfl, if_pos rfl, if_neg hl, if_neg hl]; exact ⟨rfl, rfl⟩
theorem mpse_size (x : ND) : (mpS x).size ≤ 65536 := by
 unfold mpS
 split
 ·split
  ·exact Nat.zero_le _
  ·rw [bC_size]; omega
 ·exact Nat.zero_le _
def MEncPost (x : ND) (w : World) (e : Ending) (w' : World) : Prop := e = .returned (.tuple #[.string (mpS x), .int .i64 (mpE x)]) ∧ Below w.heap.size w w'
set_option maxHeartbeats 800000 in
set_option maxRecDepth 100000 in
theorem mrenc_any {D : Nat} {S : Nat → Prop} (cs : List Value) (x : ND) (w : World) (h : NodeIn D S w cs x) (hS : ∀ b, S b → b < w.heap.size) (hl : lowV D x) (hw : validN 8 x = true → numsB 8 x = true ∧ (writeP 8 x).length ≤ 35184372088832) (hT : Utab w) : Calls Tryz.prog 50 #[.agg cs.toArray] w (MEncPost x w) := by
 obtain ⟨a1, l1, c1, a2, l2, c2, rfl⟩ := h.slices
 have b1 := (Below.refl w.heap.size w).alloc (o := .cells #[.int .i64 x.kind, .bool x.bool, .int .i64 x.num, .string x.text, .slice a1 l1 c1, .slice a2 l2 c2] 30) (Nat.le_refl _)
 have ck := six_of (heap_alloc_new w (.cells #[.int .i64 x.kind, .bool x.bool, .int .i64 x.num, .string x.text, .slice a1 l1 c1, .slice a2 l2 c2] 30))
 have hwl : w.heap.size < (w.alloc (.cells #[.int .i64 x.kind, .bool x.bool, .int .i64 x.num, .string x.text, .slice a1 l1 c1, .slice a2 l2 c2] 30)).heap.size := by simp
 obtain ⟨w1, hw1⟩ : ∃ W, W = w.alloc (.cells #[.int .i64 x.kind, .bool x.bool, .int .i64 x.num, .string x.text, .slice a1 l1 c1, .slice a2 l2 c2] 30) := ⟨_, rfl⟩
 rw [← hw1] at b1 ck hwl
 have V := Lib.hid (risvalid_any _ x w1 (h.same fun b hb => b1.block b (hS b hb)) (fun b hb => Nat.lt_of_lt_of_le (hS b hb) b1.size) hl (hT.below b1))
 have B1 := Lib.hid b1
 have CK := Lib.hid ck
 have HN := Lib.hid h
 have HS := Lib.hid hS
 have HW := Lib.hid hw
 have WL := Lib.hid hwl
 clear h hS hl hw hT b1 hwl
 cases hv : validN 8 x with
 | false =>
  rw [hv] at V
  obtain ⟨e1, e2⟩ := mpse_bad hv
  have HE := Lib.hid (And.intro e1 e2)
  clear hv e1 e2
  go_enter Tryz.func50, Tryz.ntmps50
  go_upto_region 1 with fail
  rw [← hw1]
  clear hw1
  go_wp2_with (go_at_call 27; (with_reducible refine (V.out).mono ?_); rintro e w2 ⟨rfl, hb2⟩)
  go_ret2
  exact ⟨by rw [HE.out.1, HE.out.2]; rfl, B1.out.trans (hb2.mono B1.out.size)⟩
 | true =>
  rw [hv] at V
  obtain ⟨hnu, hlen⟩ := HW.out hv
  have HV := Lib.hid hv
  have HNU := Lib.hid hnu
  have HLEN := Lib.hid hlen
  clear hv hnu hlen
  go_enter Tryz.func50, Tryz.ntmps50
  go_upto_region 1 with fail
  rw [← hw1]
  clear hw1
  go_upto_region 3 with (go_at_call 27; (with_reducible refine (V.out).mono ?_); rintro e w2 ⟨rfl, hb2⟩)
  have hB2 := B1.out.trans (hb2.mono B1.out.size)
  have cc : ∀ q v, w1.cell? ⟨w.heap.size, q, none⟩ = some v → w2.cell? ⟨w.heap.size, q, none⟩ = some v := fun q v hq => (hb2.cell (p := ⟨w.heap.size, q, none⟩) WL.out).trans hq
  have d0 := cc 0 _ CK.out.1
  have d1 := cc 1 _ CK.out.2.1
  have d2 := cc 2 _ CK.out.2.2.1
  have d3 := cc 3 _ CK.out.2.2.2.1
  have d4 := cc 4 _ CK.out.2.2.2.2.1
  have d5 := cc 5 _ CK.out.2.2.2.2.2
  have WR := Lib.hid (rpwrite_any 8 D S _ x w2 (HN.out.same fun b hb => hB2.block b (HS.out b hb)) (fun b hb => Nat.lt_of_lt_of_le (HS.out b hb) hB2.size) HV.out HNU.out HLEN.out)
  obtain ⟨s, hs⟩ : ∃ s : ByteArray, s = bC (writeP 8 x) := ⟨_, rfl⟩
  rw [← hs] at WR
  have hsz : s.size = (writeP 8 x).length := by rw [hs, bC_size]
  have HBB := Lib.hid hB2
  clear ck cc hb2 hB2
  by_cases hov : 65536 < s.size
  ·have hov' : (65536 : Int) < (s.size : Int) := by omega
   obtain ⟨e1, e2⟩ := mpse_long HV.out (by omega)
   have HE := Lib.hid (And.intro e1 e2)
   clear e1 e2 hs hsz hov
   go_wp2_with (go_at_call 58; (with_reducible refine (WR.out).mono ?_); rintro e w3 ⟨rfl, hb3⟩)
   go_ret2
   exact ⟨by rw [HE.out.1, HE.out.2]; rfl, HBB.out.trans (hb3.mono HBB.out.size)⟩
  ·have hov' : ¬ (65536 : Int) < (s.size : Int) := by omega
   obtain ⟨e1, e2⟩ := mpse_good HV.out (by omega)
   have HE := Lib.hid (And.intro (e1.trans hs.symm) e2)
   clear e1 e2 hs hsz hov
   go_wp2_with (go_at_call 58; (with_reducible refine (WR.out).mono ?_); rintro e w3 ⟨rfl, hb3⟩)
   go_ret2
   exact ⟨by rw [HE.out.1, HE.out.2]; rfl, HBB.out.trans (hb3.mono HBB.out.size)⟩
theorem writeP_same : ∀ {e d : Nat} {x : ND}, e ≤ d → validN e x = true → writeP d x = writeP e x
 | 0, _, _, _, h => by cases h
 | e + 1, 0, _, h, _ => by omega
 | e + 1, d + 1, x, hd, h => by
  rw [validN_succ, Bool.and_eq_true, List.all_eq_true] at h
  have hm : x.items.flatMap (writeP d) = x.items.flatMap (writeP e) := by
   rw [List.flatMap_def, List.flatMap_def, List.map_congr_left fun y hy => writeP_same (by omega) (h.2 y hy)]
  have hz : List.zipWith (fun s y => pText s ++ writeP d y) x.names x.items = List.zipWith (fun s y => pText s ++ writeP e y) x.names x.items := by
   have : ∀ (ns : List ByteArray) (its : List ND), (∀ y, y ∈ its → validN e y = true) → List.zipWith (fun s y => pText s ++ writeP d y) ns its = List.zipWith (fun s y => pText s ++ writeP e y) ns its := by
    intro ns
    induction ns with
    | nil => intro its _; rfl
    | cons s t ih =>
     intro its hi
     cases its with
     | nil => rfl
     | cons y u => rw [List.zipWith_cons_cons, List.zipWith_cons_cons, ih u (fun z hz => hi z (by simp [hz])), writeP_same (by omega) (hi y (by simp))]
   exact this _ _ h.2
  rw [writeP_succ, writeP_succ]
  unfold bodyM
  rw [hm, hz]
theorem pText_cost (s : ByteArray) : (pText s).length ≤ 6 * s.size + 8 := by
 have h2 : s.data.toList.length = s.size := by rw [Array.length_toList]; rfl
 unfold pText headP
 rw [List.length_append, List.length_cons, bigL_length, h2]
 unfold txtH
 (repeat' split) <;> dsimp only <;> omega
theorem zipP_sum {W : ND → List UInt8} {c : ND → Nat} : ∀ (ns : List ByteArray) (its : List ND), (∀ y, y ∈ its → (W y).length ≤ c y) → (List.zipWith (fun s y => pText s ++ W y) ns its).flatten.length ≤ (ns.map fun s => 6 * s.size + 8).sum + (its.map fun y => c y + 1).sum
 | [], _, _ => by simp
 | _ :: _, [], _ => by simp
 | s :: ss, y :: ys, h => by
  have ih := zipP_sum ss ys (fun z hz => h z (by simp [hz]))
  have h1 := pText_cost s
  have h3 := h y (by simp)
  rw [List.zipWith_cons_cons, List.flatten_cons, List.length_append, List.length_append, List.map_cons, List.sum_cons, List.map_cons, List.sum_cons]
  omega
theorem pHd_le (x : ND) : (pHd x).2 ≤ 8 := by
 unfold pHd numH txtH lstH mapH
 (repeat' split) <;> dsimp only <;> omega
theorem writeP_cost : ∀ (d : Nat) (x : ND), validN d x = true → (writeP d x).length ≤ costN d x
 | 0, _, h => by cases h
 | d + 1, x, h => by
  obtain ⟨hi, hl, htx, hns⟩ := validN_parts h
  have ih : ∀ y, y ∈ x.items → (writeP d y).length ≤ costN d y := fun y hy => writeP_cost d y (hi y hy)
  have hts : x.text.data.toList.length = x.text.size := by rw [Array.length_toList]; rfl
  have h9 := headM_cost (v := pVal x) (pHd_le x)
  have h1 := flatC_sum x.items ih
  have h2 := zipP_sum (W := writeP d) x.names x.items ih
  rw [costN_succ, writeP_succ, List.length_append]
  unfold bodyM
  split
  ·omega
  ·split
   ·omega
   ·split
    ·omega
    ·simp; omega
end Go.Proofs.YtmlmdidaldcoiaaGreatDoor
/- The pieces of a node of the third serialisation, as data. No program. -/
namespace Go.Proofs.YtmlmdidaldcoiaaGreatDoor
set_option linter.unusedVariables false
set_option linter.unusedSimpArgs false

/-- A name as a node; its pieces. -/
def txM (s : ByteArray) : ND := .mk 3 false 0 s [] []
def txtP (s : ByteArray) : List ByteArray := [bC (headP (txtH s.size) s.size), s]
/-- The pieces of each item, behind those of its name in a map. -/
def chkP (V : ND → List ByteArray) (x : ND) : List (List ByteArray) := if x.kind = 5 then List.zipWith (fun s y => txtP s ++ V y) x.names x.items else x.items.map V
/-- The pieces of a node that is at most d deep. -/
def pcs : Nat → ND → List ByteArray
 | 0, _ => []
 | d + 1, x => bC (headP (pHd x) (pVal x)) :: x.text :: (chkP (pcs d) x).flatten
theorem pcs_succ (d : Nat) (x : ND) : pcs (d + 1) x = bC (headP (pHd x) (pVal x)) :: x.text :: (chkP (pcs d) x).flatten := rfl
theorem pcs_txM (d : Nat) (s : ByteArray) : pcs (d + 1) (txM s) = txtP s := rfl
/-- The pieces as bytes. -/
def catP (l : List ByteArray) : List UInt8 := l.flatMap fun s => s.data.toList
theorem catP_app (a b : List ByteArray) : catP (a ++ b) = catP a ++ catP b := by unfold catP; rw [List.flatMap_append]
theorem catP_cons (a : ByteArray) (b : List ByteArray) : catP (a :: b) = a.data.toList ++ catP b := by unfold catP; rw [List.flatMap_cons]
theorem catP_map {V : ND → List ByteArray} {W : ND → List UInt8} : ∀ (its : List ND), (∀ y, y ∈ its → catP (V y) = W y) → catP (its.map V).flatten = its.flatMap W
 | [], _ => rfl
 | y :: u, h => by
  rw [List.map_cons, List.flatten_cons, catP_app, List.flatMap_cons, h y (by simp), catP_map u fun z hz => h z (by simp [hz])]
theorem catP_txt (s : ByteArray) : catP (txtP s) = pText s := by
 unfold txtP pText
 rw [catP_cons, catP_cons, bC_data]
 simp [catP]
theorem catP_zip {V : ND → List ByteArray} {W : ND → List UInt8} : ∀ (ns : List ByteArray) (its : List ND), (∀ y, y ∈ its → catP (V y) = W y) → catP (List.zipWith (fun s y => txtP s ++ V y) ns its).flatten = (List.zipWith (fun s y => pText s ++ W y) ns its).flatten
 | [], _, _ => rfl
 | s :: t, [], _ => rfl
 | s :: t, y :: u, h => by
  rw [List.zipWith_cons_cons, List.zipWith_cons_cons, List.flatten_cons, List.flatten_cons, catP_app, catP_app, catP_txt, h y (by simp), catP_zip t u fun z hz => h z (by simp [hz])]
theorem pcs_cat : ∀ (d : Nat) (x : ND), validN d x = true → catP (pcs d x) = writeP d x
 | 0, _, h => by cases h
 | d + 1, x, h => by
  obtain ⟨hi, -, -, -⟩ := validN_parts h
  have hk := kinds h
  have ih : ∀ y, y ∈ x.items → catP (pcs d y) = writeP d y := fun y hy => pcs_cat d y (hi y hy)
  rw [pcs_succ, writeP_succ, catP_cons, catP_cons, bC_data]
  congr 1
  unfold chkP bodyM
  obtain ⟨k, b, n, t, ns, its⟩ := x
  unfold nd0 at hk
  simp only [ND.mk.injEq, ND.kind, ND.bool, ND.num, ND.text, ND.names, ND.items] at *
  rcases hk with ⟨rfl, rfl, rfl, rfl, rfl, rfl⟩ | ⟨rfl, -, rfl, rfl, rfl, rfl⟩ | ⟨rfl, rfl, -, rfl, rfl, rfl⟩ | ⟨rfl, rfl, rfl, -, rfl, rfl⟩ | ⟨rfl, rfl, rfl, rfl, rfl, -⟩ | ⟨⟨rfl, rfl, rfl, rfl, -, -⟩, hlx⟩
  ·rfl
  ·rfl
  ·rfl
  ·simp [catP]
  ·simp only [Int.reduceEq, if_false, if_true, ↓reduceIte]
   rw [catP_map its ih]; rfl
  ·simp only [Int.reduceEq, if_false, if_true, ↓reduceIte]
   rw [catP_zip ns its ih]; rfl
theorem pcs_len {d : Nat} {x : ND} (h : validN d x = true) (q : List ByteArray) (hq : q <+: pcs d x) : (catP q).length ≤ (writeP d x).length := by
 rw [← pcs_cat d x h]
 obtain ⟨t, ht⟩ := hq
 rw [← ht, catP_app, List.length_append]
 omega
theorem chk_list {V : ND → List ByteArray} {x : ND} (hk : x.kind ≠ 5) {j : Nat} {y : ND} (hy : x.items[j]? = some y) : (chkP V x)[j]? = some (V y) := by
 unfold chkP; rw [if_neg hk, List.getElem?_map, hy]; rfl
theorem chk_map {V : ND → List ByteArray} {x : ND} (hk : x.kind = 5) {j : Nat} {y : ND} {s : ByteArray} (hy : x.items[j]? = some y) (hs : x.names[j]? = some s) : (chkP V x)[j]? = some (txtP s ++ V y) := by
 unfold chkP; rw [if_pos hk, List.getElem?_zipWith, hs, hy]
theorem chk_len {V : ND → List ByteArray} {x : ND} (hk : x.kind = 5 → x.names.length = x.items.length) : (chkP V x).length = x.items.length := by
 unfold chkP
 by_cases h : x.kind = 5
 ·rw [if_pos h, List.length_zipWith, hk h]; omega
 ·rw [if_neg h, List.length_map]
/-- What has come behind j items, and behind one more. -/
def uptoP (d : Nat) (x : ND) (j : Nat) : List ByteArray := bC (headP (pHd x) (pVal x)) :: x.text :: ((chkP (pcs d) x).take j).flatten
theorem upto_zero (d : Nat) (x : ND) : uptoP d x 0 = [bC (headP (pHd x) (pVal x)), x.text] := rfl
theorem upto_succ {d : Nat} {x : ND} {j : Nat} {c : List ByteArray} (h : (chkP (pcs d) x)[j]? = some c) : uptoP d x (j + 1) = uptoP d x j ++ c := by
 unfold uptoP
 rw [List.take_add_one, h]
 simp
theorem upto_all {d : Nat} {x : ND} {j : Nat} (h : (chkP (pcs d) x).length ≤ j) : uptoP d x j = pcs (d + 1) x := by
 unfold uptoP
 rw [List.take_of_length_le h, pcs_succ]
theorem upto_pre (d : Nat) (x : ND) (j : Nat) : uptoP d x j <+: pcs (d + 1) x := by
 refine ⟨((chkP (pcs d) x).drop j).flatten, ?_⟩
 unfold uptoP
 rw [pcs_succ, List.cons_append, List.cons_append, ← List.flatten_append, List.take_append_drop]
/-- A prefix of an item's pieces. -/
theorem upto_part {d : Nat} {x : ND} {j : Nat} {c q : List ByteArray} (h : (chkP (pcs d) x)[j]? = some c) (hq : q <+: c) : uptoP d x j ++ q <+: pcs (d + 1) x := by
 refine List.IsPrefix.trans ?_ (upto_pre d x (j + 1))
 rw [upto_succ h]
 exact (List.prefix_append_right_inj _).2 hq
theorem names_len {d : Nat} {x : ND} (h : validN (d + 1) x = true) (hk : x.kind = 5) : x.names.length = x.items.length := by
 rcases kinds h with e | e | e | e | e | ⟨-, e⟩
 ·rw [e] at hk; cases hk
 ·rw [e] at hk; cases hk
 ·rw [e] at hk; cases hk
 ·rw [e] at hk; cases hk
 ·rw [e] at hk; cases hk
 ·exact e
theorem txM_ok {d : Nat} {s : ByteArray} (h : textOk s = true) : validN (d + 1) (txM s) = true ∧ numsB (d + 1) (txM s) = true := by
 refine ⟨?_, by rw [numsB_succ]; rfl⟩
 rw [validN_succ]
 unfold flatOk txM
 simp [h, ND.kind, ND.bool, ND.num, ND.text, ND.names, ND.items]
end Go.Proofs.YtmlmdidaldcoiaaGreatDoor
/- The document's reader of the third serialisation: fixed, length. -/
namespace Go.Proofs.YtmlmdidaldcoiaaGreatDoor
open Go Go.ChangeShapes Go.WideShapes Go.ChangeAt Go.RowKit
set_option linter.unusedVariables false
set_option linter.unusedSimpArgs false

/-- First bytes of texts, lists and maps. -/
def LnOk (v : Nat) : Prop := (128 ≤ v ∧ v < 192) ∨ v = 217 ∨ v = 218 ∨ v = 219 ∨ v = 220 ∨ v = 222
instance (v : Nat) : Decidable (LnOk v) := by unfold LnOk; infer_instance
end Go.Proofs.YtmlmdidaldcoiaaGreatDoor
/- The kit's nodes and the third serialisation. No program. -/
namespace Go.Proofs.YtmlmdidaldcoiaaGreatDoor
open Go.Lib
set_option linter.unusedVariables false
set_option linter.unusedSimpArgs false

/-- What is known of the kit's nodes. -/
structure KitM (x : ND) : Prop where
 err : mpE x = 0
 txt : mpS x = bC (writeP 8 x)
 len : (writeP 8 x).length ≤ 65536
 valid : validN 8 x = true
 nums : numsB 8 x = true
theorem KitM.ofc {d : Nat} {x : ND} (hd : d ≤ 4) (h : validW d x = true) (hc : costN d x ≤ 65536) : KitM x := by
 have h8 : validN 8 x = true := validN_mono (by omega) (validW_valid h)
 have hn8 : numsB 8 x = true := cnumsB_up (by omega) (validW_valid h) (validW_nums h)
 have hl : (writeP 8 x).length ≤ 65536 := by
  rw [writeP_same (e := d) (by omega) (validW_valid h)]
  have := writeP_cost d x (validW_valid h)
  omega
 obtain ⟨e1, e2⟩ := mpse_good h8 (show ¬ 65536 < (writeP 8 x).length by omega)
 exact ⟨e2, e1, hl, h8, hn8⟩
end Go.Proofs.YtmlmdidaldcoiaaGreatDoor
