/- The program's leastOf: the weights sorted by slices.SortFunc, the heaviest first, until they reach one. -/
import Derived.Shelf.SlSortCmp.InsertionK
import Derived.Shelf.GgSortFunc.Small
import Derived.Deep.LoopGhost
import Derived.Lib.SliceRun
import Derived.Test.YtefhhfpdponabaaTpe
namespace Go.Proofs.Ytefhhfpdponabaa
open Go Go.Shelf Go.Sort Go.ChangeShapes Go.WideShapes Go.ChangeAt Go.RowKit
set_option linter.unusedVariables false
set_option linter.unusedSimpArgs false

theorem vF_lt {x y : FR} (hx : wtB x = true) (hy : wtB y = true) : y.1 * x.2 - x.1 * y.2 < 0 ↔ vF y < vF x := by
  obtain ⟨a, b, c, d, e⟩ := (wtB_iff x).1 hx
  obtain ⟨a', b', c', d', e'⟩ := (wtB_iff y).1 hy
  have h1 := vF_mul hx
  have h2 := vF_mul hy
  obtain ⟨p, hp⟩ : ∃ p : Nat, x.1 = (p : Int) := ⟨x.1.toNat, by omega⟩
  obtain ⟨q, hq⟩ : ∃ q : Nat, x.2 = (q : Int) := ⟨x.2.toNat, by omega⟩
  obtain ⟨p', hp'⟩ : ∃ p : Nat, y.1 = (p : Int) := ⟨y.1.toNat, by omega⟩
  obtain ⟨q', hq'⟩ : ∃ q : Nat, y.2 = (q : Int) := ⟨y.2.toNat, by omega⟩
  rw [hp, hq] at h1
  rw [hp', hq'] at h2
  rw [hp, hq, hp', hq']
  simp only [Int.toNat_natCast] at h1 h2
  have hq0 : 0 < q := by omega
  have hq0' : 0 < q' := by omega
  generalize vF x = u at h1 ⊢
  generalize vF y = u' at h2 ⊢
  have hK := KF_pos
  generalize KF = K at h1 h2 hK
  have e1 : p' * q * K = u' * (q * q') := by rw [Nat.mul_right_comm, ← h2, Nat.mul_assoc, Nat.mul_comm q']
  have e2 : p * q' * K = u * (q * q') := by rw [Nat.mul_right_comm, ← h1, Nat.mul_assoc]
  have hqq : 0 < q * q' := Nat.mul_pos hq0 hq0'
  have key : p' * q < p * q' ↔ u' < u := by
    constructor
    · intro h
      have := Nat.mul_lt_mul_of_pos_right h hK
      rw [e1, e2] at this
      exact Nat.lt_of_mul_lt_mul_right this
    · intro h
      have := Nat.mul_lt_mul_of_pos_right h hqq
      rw [← e1, ← e2] at this
      exact Nat.lt_of_mul_lt_mul_right this
  rw [← key]
  have m1 : (p' : Int) * (q : Int) = ((p' * q : Nat) : Int) := by rw [Int.natCast_mul]
  have m2 : (p : Int) * (q' : Int) = ((p * q' : Nat) : Int) := by rw [Int.natCast_mul]
  rw [m1, m2]
  omega
/-- A weight. -/
abbrev WT := { f : FR // wtB f = true }
instance : Inhabited WT := ⟨⟨(0, 1), by decide⟩⟩
def encW (x : WT) : List Value := [.int .i64 x.1.1, .int .i64 x.1.2]
def cfW (x y : WT) : Int := y.1.1 * x.1.2 - x.1.1 * y.1.2
theorem ltW (x y : WT) : ltOf cfW x y = decide (vF y.1 < vF x.1) := by
  unfold ltOf cfW
  rw [decide_eq_decide]
  exact vF_lt x.2 y.2
theorem swoW : SWO (ltOf cfW) where
  irrefl x := by rw [ltW]; simp
  trans x y z h1 h2 := by rw [ltW] at *; simp at *; omega
  ntrans x y z h1 h2 := by rw [ltW] at *; simp at *; omega
theorem cellsF_one : ∀ l : List FR, ∀ u ∈ cellsF l, u.oneCell' = true
  | [], u, h => by cases h
  | f :: l, u, h => by
    have e : cellsF (f :: l) = .int .i64 f.1 :: .int .i64 f.2 :: cellsF l := rfl
    rw [e] at h
    rcases List.mem_cons.1 h with rfl | h
    · rfl
    · rcases List.mem_cons.1 h with rfl | h
      · rfl
      · exact cellsF_one l u h
theorem sort_grown {α : Type} [Inhabited α] (enc : α → List Value) (k : Nat) (w : World) (blk off m : Nat) (dk : Array α) (os : Array Obj) : w.grownBy (sortWorldK enc k w blk off m dk os) (some blk) := by
  refine ⟨rfl, rfl, rfl, ?_, fun i hi hne => ?_⟩
  · unfold sortWorldK grow putRowK putRow mapBlock Go.Sort.ahead
    simp
  · have hne' : blk ≠ i := fun e => hne (by rw [e])
    unfold sortWorldK grow putRowK putRow mapBlock Go.Sort.ahead
    show (w.heap.modify blk _ ++ os)[i]? = w.heap[i]?
    rw [Array.getElem?_append_left (by simpa using hi), Array.getElem?_modify, if_neg hne']
set_option maxHeartbeats 800000 in
set_option maxRecDepth 100000 in
theorem tcmp_any (x y : WT) (W : World) : Calls Try.prog 39 #[.agg #[.int .i64 x.1.1, .int .i64 x.1.2], .agg #[.int .i64 y.1.1, .int .i64 y.1.2]] W fun e w' => e = .returned (.int .i64 (cfW x y)) ∧ ∃ q os', w' = grow (W.drewN q) os' := by
  obtain ⟨⟨xn, xd⟩, hx⟩ := x
  obtain ⟨⟨yn, yd⟩, hy⟩ := y
  obtain ⟨a, b, c, d, -⟩ := (wtB_iff _).1 hx
  obtain ⟨a', b', c', d', -⟩ := (wtB_iff _).1 hy
  dsimp only at a b c d a' b' c' d'
  show Calls Try.prog 39 #[.agg #[.int .i64 xn, .int .i64 xd], .agg #[.int .i64 yn, .int .i64 yd]] W fun e w' => e = .returned (.int .i64 (yn * xd - xn * yd)) ∧ ∃ q os', w' = grow (W.drewN q) os'
  obtain ⟨P1, hP1⟩ : ∃ P1, P1 = yn * xd := ⟨_, rfl⟩
  obtain ⟨P2, hP2⟩ : ∃ P2, P2 = xn * yd := ⟨_, rfl⟩
  have p1 : 0 ≤ P1 ∧ P1 ≤ 10000 := by
    rw [hP1]
    exact ⟨Int.mul_nonneg c' (by omega), Int.le_trans (Int.mul_le_mul (show yn ≤ 100 by omega) (show xd ≤ 100 by omega) (by omega) (by omega)) (by decide)⟩
  have p2 : 0 ≤ P2 ∧ P2 ≤ 10000 := by
    rw [hP2]
    exact ⟨Int.mul_nonneg c (by omega), Int.le_trans (Int.mul_le_mul (show xn ≤ 100 by omega) (show yd ≤ 100 by omega) (by omega) (by omega)) (by decide)⟩
  obtain ⟨p1a, p1b⟩ := p1
  obtain ⟨p2a, p2b⟩ := p2
  have m1 : yn * xd = P1 := hP1.symm
  have m2 : xn * yd = P2 := hP2.symm
  rw [m1, m2]
  clear hP1 hP2 hx hy
  go_enter Try.func39, Try.ntmps39
  go_wp2
  go_ret
  exact ⟨rfl, 0, _, by rw [alloc_eq_grow, alloc_eq_grow, grow_grow]; rfl⟩
set_option maxHeartbeats 1600000 in
set_option maxRecDepth 100000 in
theorem tlen64_any (n : Int) (h0 : 0 ≤ n) (hn : n ≤ 8) (w : World) : Calls Try.prog 52 #[.int .u64 n] w fun e w' => (∃ l : Int, e = .returned (.int .i64 l)) ∧ w' = w := by
  rcases (by omega : n = 0 ∨ n = 1 ∨ n = 2 ∨ n = 3 ∨ n = 4 ∨ n = 5 ∨ n = 6 ∨ n = 7 ∨ n = 8) with rfl | rfl | rfl | rfl | rfl | rfl | rfl | rfl | rfl
  all_goals
    go_enter Try.func52, Try.ntmps52
    go_wp2
    go_ret
    exact ⟨⟨_, rfl⟩, rfl⟩
set_option maxHeartbeats 800000 in
set_option maxRecDepth 100000 in
theorem tblen_any (n : Int) (h0 : 0 ≤ n) (hn : n ≤ 8) (w : World) : Calls Try.prog 42 #[.int .u64 n] w fun e w' => (∃ l : Int, e = .returned (.int .i64 l)) ∧ w' = w := by
  have L := Lib.hid (tlen64_any n h0 hn w)
  go_enter Try.func42, Try.ntmps42
  go_wp2_with (go_at_call 52; (with_reducible refine L.out.mono ?_); rintro e w1 ⟨⟨l, rfl⟩, rfl⟩)
  go_ret
  exact ⟨⟨_, rfl⟩, rfl⟩
def sren : Go.Shelf.Ren := ⟨fun | 20 => 43 | n => n, fun | 0 => 0 | 3 => 3 | 4 => 4 | 22 => 26 | 24 => 39 | 25 => 63 | n => n, fun | n => n⟩
theorem slays20 : Go.Proofs.SlLaysF0.n20 Try.prog sren where
  mixed := by kernel_rfl
  f20 := ⟨"slices.insertionSortCmpFunc[keyevent/api.Fraction]", by decide, Try.func43.trans (congrArg some (by kernel_rfl))⟩
  t0 := Try.underlying0
  a0 := Try.isAgg0
  z0 := Try.sizeOf0
  v0 := Try.zeroValue0
  t3 := Try.underlying3
  a3 := Try.isAgg3
  z3 := Try.sizeOf3
  v3 := Try.zeroValue3
  t4 := Try.underlying4
  a4 := Try.isAgg4
  z4 := Try.sizeOf4
  v4 := Try.zeroValue4
  t22 := Try.underlying26
  a22 := Try.isAgg26
  z22 := Try.sizeOf26
  v22 := Try.zeroValue26
  t25 := Try.underlying63
  a25 := Try.isAgg63
  z25 := Try.sizeOf63
  v25 := Try.zeroValue63
theorem tins_any (blk cap : Nat) (d : Array WT) (w : World) (hH : HoldsK encW 2 w blk 0 d) (hblk : blk < w.heap.size) (h8 : d.size ≤ 8) :
    Calls Try.prog 43 #[.slice (some ⟨blk, 0, none⟩) d.size cap, .int .i64 0, .int .i64 d.size, .func (.func 39) #[] #[]] w fun e w' => e = .returned (.tuple #[]) ∧ ∃ (d' : Array WT) (n : Nat) (os : Array Obj), PermIn 0 d.size d d' ∧ SortedIn (ltOf cfW) 0 d.size d' ∧ w' = sortWorldK encW 2 w blk 0 n d' os := by
  have eg : ∀ args w, (callFunc 39 args).run Try.prog w = .ok (.enter 39 args) w := enters_of Try.func39 (by kernel_rfl) rfl
  have hcon := AnyQ.insertionSortCmpFunc slays20 2 Try.isAgg39 Try.sizeOf39 encW (fun _ => rfl) (fun x v hv => by simp [encW] at hv; rcases hv with rfl | rfl <;> rfl) cfW 39 #[] blk 0 cap 0 d.size d w eg (fun _ _ _ _ x y => tcmp_any x y _) hH hblk (Nat.zero_le _) (Nat.le_refl _) (by omega)
  refine Calls.mono hcon ?_
  rintro e w' ⟨rfl, n, os, rfl⟩
  have h := insertionSort_holds (lt := ltOf cfW) swoW d 0 d.size (Nat.zero_le _) (Nat.le_refl _)
  exact ⟨rfl, _, n, os, h.1, h.2, rfl⟩
set_option maxHeartbeats 2000000 in
set_option maxRecDepth 100000 in
theorem tpdq_any (blk cap : Nat) (lim : Int) (d : Array WT) (w : World) (hH : HoldsK encW 2 w blk 0 d) (hblk : blk < w.heap.size) (h8 : d.size ≤ 8) :
    Calls Try.prog 41 #[.slice (some ⟨blk, 0, none⟩) d.size cap, .int .i64 0, .int .i64 d.size, .int .i64 lim, .func (.func 39) #[] #[]] w fun e w' => e = .returned (.tuple #[]) ∧ ∃ (d' : Array WT) (n : Nat) (os : Array Obj), PermIn 0 d.size d d' ∧ SortedIn (ltOf cfW) 0 d.size d' ∧ w' = sortWorldK encW 2 w blk 0 n d' os := by
  have TI := Lib.hid (tins_any blk cap d w hH hblk h8)
  have h8i : (d.size : Int) ≤ 12 := by omega
  clear hH
  go_enter Try.func41, Try.ntmps41
  go_wp2
  refine wp_loop_rounds 1 ?_
  rw [rounds_succ]
  go_wp2_with (go_at_call 43; (with_reducible refine TI.out.mono ?_); rintro e w' ⟨rfl, d', n, os, h1, h2, h3⟩; replace h1 := Lib.hid h1; replace h2 := Lib.hid h2; replace h3 := Lib.hid h3)
  (try simp only [Exit.inBlock, Exit.then]); refine bodyPost_ret (results_none rfl _ _ _) rfl ?_
  exact ⟨rfl, d', n, os, h1.out, h2.out, h3.out⟩
set_option maxHeartbeats 2000000 in
set_option maxRecDepth 100000 in
theorem tsort_any (blk cap : Nat) (d : Array WT) (w : World) (hH : HoldsK encW 2 w blk 0 d) (hblk : blk < w.heap.size) (h8 : d.size ≤ 8) :
    Calls Try.prog 38 #[.slice (some ⟨blk, 0, none⟩) d.size cap, .func (.func 39) #[] #[]] w fun e w' => e = .returned (.tuple #[]) ∧ ∃ (d' : Array WT) (n : Nat) (os : Array Obj), PermIn 0 d.size d d' ∧ SortedIn (ltOf cfW) 0 d.size d' ∧ w' = sortWorldK encW 2 w blk 0 n d' os := by
  have TP := Lib.hid (fun lim => tpdq_any blk cap lim d w hH hblk h8)
  have BL := Lib.hid (tblen_any (d.size : Int) (by omega) (by omega) w)
  have h8i : (d.size : Int) ≤ 12 := by omega
  clear hH
  go_enter Try.func38, Try.ntmps38
  go_wp2_with (first
    | (go_at_call 42; (with_reducible refine BL.out.mono ?_); rintro e w' ⟨⟨l, rfl⟩, rfl⟩)
    | (go_at_call 41; (with_reducible refine (TP.out _).mono ?_); rintro e w' ⟨rfl, d', n, os, h1, h2, h3⟩; replace h1 := Lib.hid h1; replace h2 := Lib.hid h2; replace h3 := Lib.hid h3))
  go_end0
  exact ⟨rfl, d', n, os, h1.out, h2.out, h3.out⟩
set_option maxHeartbeats 2000000 in
set_option maxRecDepth 100000 in
theorem tclone_any (B : Nat) (v : Value) (l : List FR) (w : World) (hv : FrsAt B w v l) (hB : B ≤ w.heap.size) (h0 : l ≠ []) (h8 : l.length ≤ 8) : Calls Try.prog 37 #[v] w fun e w' => ∃ v', e = .returned v' ∧ w'.ownsRow w.heap.size 39 2 v' l.length (cellsF l) ∧ Below w.heap.size w w' := by
  obtain ⟨ao, cap, rfl, hcl, hcm, h64, hcells⟩ := hv
  obtain ⟨f0, hf0⟩ : ∃ f, l[0]? = some f := by
    cases l with
    | nil => exact absurd rfl h0
    | cons a r => exact ⟨a, rfl⟩
  obtain ⟨g, off, rfl, hg, -, -⟩ := hcells 0 f0 hf0
  have HC : Hid (∀ j u, (cellsF l)[j]? = some u → w.cell? ⟨g, off + j, none⟩ = some u) := Lib.hid (fun j u hj => by
    have hjl : j < l.length * 2 := by
      rcases Nat.lt_or_ge j (cellsF l).length with h | h
      · rwa [cellsF_length] at h
      · rw [List.getElem?_eq_none h] at hj; cases hj
    obtain ⟨f, hf⟩ : ∃ f, l[j / 2]? = some f := ⟨_, List.getElem?_eq_getElem (by omega)⟩
    obtain ⟨g', off', e, -, c1, c2⟩ := hcells (j / 2) f hf
    cases e
    obtain ⟨q1, q2⟩ := cellsF_get l (j / 2) f hf
    rcases (by omega : j = j / 2 * 2 ∨ j = j / 2 * 2 + 1) with e | e
    · rw [e, q1] at hj
      cases hj
      rw [e]; exact c1
    · rw [e, q2] at hj
      cases hj
      rw [e, ← Nat.add_assoc]; exact c2)
  have q22 : ∀ (w : World) (a : Option Addr) (n c n' c' : Nat), (binOp .eql 26 (.slice a n c) (.slice none n' c')).run Try.prog w = .ok (.bool a.isNone) w := fun w a n c n' c' => Lib.run_eql_slice_nil w _ _ a n c n' c' Try.underlying26
  obtain ⟨i0, hi, hz0, hz1, hz2⟩ := info_parts Try.infoF
  have HI := Lib.hid (And.intro hi (And.intro hz0 (And.intro hz1 hz2)))
  clear hi hz0 hz1 hz2 hcells hf0 h0
  go_enter Try.func37, Try.ntmps37
  go_wp2_with (at_builtin; refine wpList_append_own _ rfl _ _ 26 rfl w.heap.size 39 i0 (.agg #[.int .i64 0, .int .i64 0]) 2 16 Try.underlying26 HI.out.1 HI.out.2.1 HI.out.2.2.1 HI.out.2.2.2 rfl (by decide) _ _ _ rfl (World.ownsRow_made w #[] 0 (Nat.le_refl _) (Nat.zero_le _) (by simp)) ⟨g, off, none⟩ l.length cap (cellsF l) rfl ?qc1 ?qc2 ?qc3 ?qc4 ?qc5 ?qc6 ?_)
  case qc1 => rw [cellsF_length]
  case qc2 =>
    intro j u hj
    rw [Addr.add_lit]
    exact Lib.cell?_alloc_some _ (HC.out j u hj)
  case qc3 => exact cellsF_one l
  case qc4 => rw [Nat.zero_add]; omega
  case qc5 => rw [Nat.zero_add]; omega
  case qc6 => simp
  intro v' w1 hown hgrow hnil
  have hb := obelow (size := 2) ((Below.refl w.heap.size w).alloc (o := .cells #[] 39) (Nat.le_refl _)) (World.ownsRow_made w #[] 0 (Nat.le_refl _) (Nat.zero_le _) (by simp)) hgrow (by simp)
  have HO := Lib.hid hown
  clear hown hgrow hnil
  go_wp2
  go_ret
  exact ⟨v', rfl, HO.out, hb⟩
end Go.Proofs.Ytefhhfpdponabaa
