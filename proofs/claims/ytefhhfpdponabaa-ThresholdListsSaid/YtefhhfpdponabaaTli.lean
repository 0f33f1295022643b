/- The walk of ThresholdLists. -/
import Derived.Test.YtefhhfpdponabaaTsa
import Derived.Test.YtefhhfpdponabaaTgr
import Derived.Maps.AppendAt
namespace Go.Proofs.Ytefhhfpdponabaa
open Go Go.ChangeShapes Go.WideShapes Go.ChangeAt Go.RowKit
set_option linter.unusedVariables false
set_option linter.unusedSimpArgs false

/-- Two rows in blocks of their own. -/
def Sep (va vb : Value) : Prop := va.ownBlock = none ∨ va.ownBlock ≠ vb.ownBlock
theorem Sep.symm {va vb : Value} (h : Sep va vb) : Sep vb va := by
  unfold Sep at h ⊢
  cases hb : vb.ownBlock with
  | none => exact .inl rfl
  | some b =>
    rcases h with h | h
    · rw [h]; exact .inr (by simp)
    · rw [hb] at h; exact .inr (fun e => h e.symm)
theorem Sep.app {va va' vb : Value} {H : Nat} (h : Sep va vb) (hat : va'.ownBlock = va.ownBlock ∨ va'.ownBlock = some H) (hlt : ∀ b, vb.ownBlock = some b → b < H) : Sep va' vb := by
  unfold Sep at h ⊢
  rcases hat with e | e
  · rw [e]; exact h
  · refine .inr fun e2 => ?_
    rw [e] at e2
    exact Nat.lt_irrefl _ (hlt H e2.symm)
/-- The dice, and two fractions in blocks of their own. -/
structure LSt (w0 : World) (g C0 : Nat) (w : World) : Prop where
  hg : w0.heap.size = g
  hC : g < C0
  hd : DiceAt g w g
  hh : Arr w C0 39 [.int .i64 1, .int .i64 2]
  ho : Arr w (C0 + 1) 39 [.int .i64 1, .int .i64 1]
  hb : Below g w0 w
section
variable {w0 w w1 : World} {g C0 : Nat}
theorem LSt.lt (h : LSt w0 g C0 w) : C0 + 1 < w.heap.size := h.ho.lt
theorem LSt.below (h : LSt w0 g C0 w) (hb : Below w.heap.size w w1) : LSt w0 g C0 w1 :=
  ⟨h.hg, h.hC, h.hd.go hb, h.hh.below hb h.hh.lt, h.ho.below hb h.lt, h.hb.trans (hb.mono (by have := h.hd.lt; omega))⟩
theorem LSt.alloc (h : LSt w0 g C0 w) (x : Obj) : LSt w0 g C0 (w.alloc x) := h.below ((Below.refl w.heap.size w).alloc (Nat.le_refl _) x)
theorem LSt.drew (h : LSt w0 g C0 w) : LSt w0 g C0 w.drew := h.below (Below.refl w.heap.size w).drew
theorem LSt.dice (h : LSt w0 g C0 w) (hg : w.grownBy w1 (some g)) (hd : DiceAt g w1 g) : LSt w0 g C0 w1 :=
  ⟨h.hg, h.hC, hd, h.hh.kept hg (by intro e; cases e; exact Nat.lt_irrefl _ h.hC), h.ho.kept hg (by intro e; have := h.hC; injection e; omega), gbelow h.hb hg (by have := h.hd.lt; omega) (Nat.le_refl _)⟩
theorem LSt.own (h : LSt w0 g C0 w) {C e size n : Nat} {v : Value} {xs : List Value} (hC : C0 + 2 ≤ C) (hown : w.ownsRow C e size v n xs) (k : w.grownBy w1 v.ownBlock) : LSt w0 g C0 w1 :=
  have hl := h.lt
  have hC0 := h.hC
  ⟨h.hg, h.hC, h.hd.same (fun j hj => own_kept hown k j (by omega) (by omega)), h.hh.of_block (own_kept hown k C0 (by omega) (by omega)), h.ho.of_block (own_kept hown k (C0 + 1) (by omega) hl), obelowC h.hb hown (by omega) k (by omega)⟩
theorem LSt.row (h : LSt w0 g C0 w) {b : Nat} (hb : C0 + 2 ≤ b) (ys : Array Value) : LSt w0 g C0 (w.setRow b ys) :=
  ⟨h.hg, h.hC, h.hd.same (fun i hi => setRow_other w b i _ (by have := h.hC; omega)), h.hh.besideRow b ys (by omega), h.ho.besideRow b ys (by omega), below_setRow h.hb b (by have := h.hC; omega) ys⟩
theorem LSt.h1 (h : LSt w0 g C0 w) : w.cell? ⟨C0, 0, none⟩ = some (.int .i64 1) := h.hh.cellAt rfl
theorem LSt.h2 (h : LSt w0 g C0 w) : w.cell? ⟨C0, 1, none⟩ = some (.int .i64 2) := h.hh.cellAt rfl
theorem LSt.o1 (h : LSt w0 g C0 w) : w.cell? ⟨C0 + 1, 0, none⟩ = some (.int .i64 1) := h.ho.cellAt rfl
theorem LSt.o2 (h : LSt w0 g C0 w) : w.cell? ⟨C0 + 1, 1, none⟩ = some (.int .i64 1) := h.ho.cellAt rfl
end
theorem own_setRow {w : World} {C e size n : Nat} {v : Value} {xs : List Value} (h : w.ownsRow C e size v n xs) (b : Nat) (ys : Array Value) (hne : ∀ x, v.ownBlock = some x → x ≠ b) : (w.setRow b ys).ownsRow C e size v n xs :=
  h.kept (row := some b) ⟨rfl, rfl, rfl, by simp, fun i hi hn => setRow_other w b i ys (fun e => hn (by rw [e]))⟩ (by
    cases hv : v.ownBlock with
    | none => exact .inl rfl
    | some x => exact .inr (fun e => hne x hv (by injection e)))
/-- Weights, the first of them one. -/
def GoodL (A : List FR) : Prop := (∀ f ∈ A, wtB f = true) ∧ (A ≠ [] → A[0]? = some (1, 1))
theorem GoodL.nil : GoodL [] := ⟨fun f h => (by cases h), fun h => absurd rfl h⟩
theorem GoodL.snoc {A : List FR} {f : FR} (h : GoodL A) (hf : wtB f = true) (h1 : A = [] → f = (1, 1)) : GoodL (A ++ [f]) := by
  refine ⟨fun x hx => ?_, fun _ => ?_⟩
  · rcases List.mem_append.1 hx with h' | h'
    · exact h.1 x h'
    · rw [List.mem_singleton] at h'; rw [h']; exact hf
  · cases A with
    | nil => rw [h1 rfl]; rfl
    | cons a r => exact h.2 (by simp)
/-- Three rows of numbers, each in a block of its own. -/
structure Rows3 (C : Nat) (w : World) (v1 v2 v3 : Value) (X1 X2 X3 : List Int) : Prop where
  o1 : w.ownsRow C 3 1 v1 X1.length (intsV X1)
  o2 : w.ownsRow C 3 1 v2 X2.length (intsV X2)
  o3 : w.ownsRow C 3 1 v3 X3.length (intsV X3)
  s12 : Sep v1 v2
  s13 : Sep v1 v3
  s23 : Sep v2 v3
section
variable {C : Nat} {w w' : World} {v1 v2 v3 v' : Value} {X1 X2 X3 : List Int}
theorem Rows3.swap (h : Rows3 C w v1 v2 v3 X1 X2 X3) : Rows3 C w v2 v1 v3 X2 X1 X3 := ⟨h.o2, h.o1, h.o3, h.s12.symm, h.s23, h.s13⟩
theorem Rows3.swap3 (h : Rows3 C w v1 v2 v3 X1 X2 X3) : Rows3 C w v3 v2 v1 X3 X2 X1 := ⟨h.o3, h.o2, h.o1, h.s23.symm, h.s13.symm, h.s12.symm⟩
theorem Rows3.alloc (h : Rows3 C w v1 v2 v3 X1 X2 X3) (o : Obj) : Rows3 C (w.alloc o) v1 v2 v3 X1 X2 X3 := ⟨h.o1.alloc o, h.o2.alloc o, h.o3.alloc o, h.s12, h.s13, h.s23⟩
theorem Rows3.dice {g : Nat} (h : Rows3 C w v1 v2 v3 X1 X2 X3) (hg : w.grownBy w' (some g)) (hlt : g < C) : Rows3 C w' v1 v2 v3 X1 X2 X3 := ⟨owns_grown h.o1 hg hlt, owns_grown h.o2 hg hlt, owns_grown h.o3 hg hlt, h.s12, h.s13, h.s23⟩
theorem Rows3.app (h : Rows3 C w v1 v2 v3 X1 X2 X3) {x : Int} (hO : w'.ownsRow C 3 1 v' (X1.length + 1) (intsV X1 ++ [.int .i64 x])) (hg : w.grownBy w' v1.ownBlock) (hat : v'.ownBlock = v1.ownBlock ∨ v'.ownBlock = some w.heap.size) : Rows3 C w' v' v2 v3 (X1 ++ [x]) X2 X3 := by
  have e1 : (X1 ++ [x]).length = X1.length + 1 := by simp
  have e2 : intsV (X1 ++ [x]) = intsV X1 ++ [.int .i64 x] := by simp [intsV]
  exact ⟨by rw [e1, e2]; exact hO, h.o2.kept hg h.s12.symm, h.o3.kept hg h.s13.symm, h.s12.app hat (fun b e => (h.o2.lt b e).2), h.s13.app hat (fun b e => (h.o3.lt b e).2), h.s23⟩
end
set_option maxHeartbeats 12800000 in
set_option maxRecDepth 100000 in
theorem lists13_walk (a : Option Addr) (len cap : Nat) (zs : List Int) (w : World) (hn : NumsB w.heap.size w a len cap zs) :
    Calls Try.prog 7 #[.slice a len cap] w fun e w' => e = .returned (.bool true) ∧ Below w.heap.size w w' := by
  have AW := Lib.hid (fun (wx : World) => awake13_any wx)
  have LI := Lib.hid (fun wx : World => light_any a len cap wx)
  have RO := Lib.hid (roll_any a len cap zs w hn)
  by_cases h500 : (len : Int) ≤ 500
  rotate_left
  · rw [decide_eq_false h500] at LI
    clear h500
    go_enter Try.func7, Try.ntmps7
    go_wp2_with (first
      | (go_at_call 8; (with_reducible refine (LI.out _).mono ?_); rintro e w3 ⟨rfl, rfl⟩)
      | (go_at_call 9; (with_reducible refine (AW.out _).mono ?_); rintro e w1 ⟨rfl, hb1⟩))
    go_ret
    exact ⟨rfl, hb1⟩
  rw [decide_eq_true h500] at LI
  obtain ⟨g, hg⟩ : ∃ g, g = w.heap.size := ⟨_, rfl⟩
  have N4 := Lib.hid (fun (wx : World) (h : DiceAt g wx g) => next_lit g g 4 4 rfl wx (by decide) (by decide) h)
  have N2 := Lib.hid (fun (wx : World) (h : DiceAt g wx g) => next_lit g g 2 2 rfl wx (by decide) (by decide) h)
  rw [← hg] at RO
  have HG := Lib.hid hg.symm
  obtain ⟨i0, hi, hz0, hz1, hz2⟩ := info_parts Try.infoF
  have HI := Lib.hid (And.intro hi (And.intro hz0 (And.intro hz1 hz2)))
  obtain ⟨j0, hj, hy0, hy1, hy2⟩ := info_parts Try.infoI
  have HJ := Lib.hid (And.intro hj (And.intro hy0 (And.intro hy1 hy2)))
  clear hi hz0 hz1 hz2 hj hy0 hy1 hy2 hn h500
  rw [← hg]
  clear hg
  go_enter Try.func7, Try.ntmps7
  go_upto_region 5 with (first
    | (go_at_call 8; (with_reducible refine (LI.out _).mono ?_); rintro e w3 ⟨rfl, rfl⟩)
    | (go_at_call 10; (with_reducible refine (RO.out).mono ?_); rintro e w1 ⟨rfl, hb1, hd1⟩)
    | (go_at_call 11; (with_reducible refine (N4.out _ hd2).mono ?_); rintro e w3 ⟨⟨r2, hr2, rfl⟩, hg3, hd3⟩)
    | (go_at_call 11; (with_reducible refine (N4.out _ hd1).mono ?_); rintro e w2 ⟨⟨r1, hr1, rfl⟩, hg2, hd2⟩))
  obtain ⟨n, hn⟩ : ∃ n, n = 1 + r1 := ⟨_, rfl⟩
  obtain ⟨m, hm⟩ : ∃ m, m = 1 + r2 := ⟨_, rfl⟩
  have ni : (1 : Int) + (r1 : Int) = (n : Int) := by omega
  have mi : (1 : Int) + (r2 : Int) = (m : Int) := by omega
  rw [ni, mi]
  have n1 : 1 ≤ n := by omega
  have n4 : n ≤ 4 := by omega
  have m1 : 1 ≤ m := by omega
  have m4 : m ≤ 4 := by omega
  obtain ⟨C0, hC0⟩ : ∃ C0, C0 = w3.heap.size := ⟨_, rfl⟩
  have hS : LSt w g C0 ((w3.alloc (.cells #[.int .i64 1, .int .i64 2] 39)).alloc (.cells #[.int .i64 1, .int .i64 1] 39)) := by
    rw [hC0]
    have hb3 := gbelow (gbelow hb1 hg2 (by have := hd1.lt; omega) (Nat.le_refl _)) hg3 (by have := hd2.lt; omega) (Nat.le_refl _)
    have hlt := hd3.lt
    have s1 : (w3.alloc (.cells #[.int .i64 1, .int .i64 2] 39)).heap.size = w3.heap.size + 1 := by simp
    refine ⟨HG.out, hlt, (hd3.go ((Below.refl w3.heap.size w3).alloc (Nat.le_refl _) _)).go ((Below.refl _ _).alloc (Nat.le_refl _) _), (Arr.new w3 _ _).alloc _, ?_, (hb3.alloc (by omega) _).alloc (by simp; omega) _⟩
    have := Arr.new (w3.alloc (.cells #[.int .i64 1, .int .i64 2] 39)) [.int .i64 1, .int .i64 1] 39
    rw [s1] at this
    exact this
  clear hb1 hd1 hg2 hd2 hg3 hd3 hn hm hr1 hr2 RO LI N4 ni mi
  have ti : (n : Int) + (m : Int) = ((n + m : Nat) : Int) := by omega
  go_upto_region 7 with fail
  rw [← hC0]
  generalize hW : (w3.alloc _).alloc _ = W0 at hS ⊢
  clear hW hC0
  obtain ⟨T, hT⟩ : ∃ T, T = n + m := ⟨_, rfl⟩
  have hti : (n : Int) + (m : Int) = (T : Int) := by omega
  have HT := Lib.hid hT
  have hT8 : (T : Int) ≤ 8 := by omega
  have n4i : (n : Int) ≤ 4 := by omega
  have m4i : (m : Int) ≤ 4 := by omega
  have HTI := Lib.hid hti
  clear ti hti hT
  go_wp2
  rw [HTI.out]
  go_loopw [8, 9, 36] (fun sa sb i wr => ∃ (j : Nat) (A B : List FR) (ao bo : Option Addr) (ac bc : Nat), j ≤ T ∧ i = .int .i64 j ∧ sa = .slice ao A.length ac ∧ sb = .slice bo B.length bc ∧ Hid (A.length = min j n) ∧ Hid (B.length = j - n) ∧ Hid (GoodL A) ∧ Hid (GoodL B) ∧ Hid (wr.ownsRow (C0 + 2) 39 2 (.slice ao A.length ac) A.length (cellsF A)) ∧ Hid (wr.ownsRow (C0 + 2) 39 2 (.slice bo B.length bc) B.length (cellsF B)) ∧ Hid (Sep (.slice ao A.length ac) (.slice bo B.length bc)) ∧ Hid (LSt w g C0 wr)) (fun _ _ i _ => T - (intOf i).toNat)
  case atStart => exact ⟨0, [], [], none, none, 0, 0, Nat.zero_le _, rfl, rfl, rfl, Lib.hid (by simp), Lib.hid (by simp), Lib.hid GoodL.nil, Lib.hid GoodL.nil, Lib.hid (World.ownsRow_nil _ _ _ _), Lib.hid (World.ownsRow_nil _ _ _ _), Lib.hid (.inl rfl), Lib.hid hS⟩
  case round =>
    clear hS
    obtain ⟨j, A, B, ao, bo, ac, bc, hj, rfl, rfl, rfl, hAl, hBl, hA, hB, hOA, hOB, hSep, hL⟩ := hrel
    by_cases hlt : j < T
    · go_upto_region 10 with fail
      go_cut [11] from 39 to 53 (fun v11 wx => ∃ b f2, v11 = .pointer (some ⟨b, 0, none⟩) ∧ Hid (f2 = 1 ∨ f2 = 2) ∧ Hid (Arr wx b 39 [.int .i64 1, .int .i64 f2]) ∧ wr.heap.size ≤ b ∧ Hid (wr.grownBy wx (some g)) ∧ Hid (DiceAt g wx g))
      case first =>
        refine wp_region_plan (fun w' => w'.cell? ⟨C0, 0, none⟩ = some (.int .i64 1) ∧ w'.cell? ⟨C0, 1, none⟩ = some (.int .i64 2) ∧ w'.cell? ⟨C0 + 1, 0, none⟩ = some (.int .i64 1) ∧ w'.cell? ⟨C0 + 1, 1, none⟩ = some (.int .i64 1)) [0, 1] (.take 0 (.take 1 (.take 3 (Plan.join true (.ask 2 false (.ask 4 false (.take 5 (.ask 6 false (.ask 7 false .stop .stop) (.ask 7 false (.ask 6 false .stop .stop) .stop))) (.ask 7 false (.ask 4 false (.take 5 (.ask 6 false .stop .stop)) .stop) .stop)) (.ask 4 true (.ask 2 false (.take 5 (.ask 6 false (.ask 7 false .stop .stop) (.ask 7 false (.ask 6 false .stop .stop) .stop))) (.ask 7 true (.ask 2 false (.take 5 (.ask 6 false .stop .stop)) .stop) .stop)) (.ask 7 true (.ask 2 false (.ask 4 false (.take 5 (.ask 6 false .stop .stop)) .stop) (.ask 4 true (.ask 2 false (.take 5 (.ask 6 false .stop .stop)) .stop) .stop)) .stop))) (.ask 8 false .stop .stop))))) (by kernel_rfl) (by kernel_rfl) (fun _ d _ _ _ h => by cases d <;> exact h) ⟨hL.out.h1, hL.out.h2, hL.out.o1, hL.out.o2⟩ ?_
        have HL0 := Lib.hid hL.out.drew
        have hsz : wr.heap.size = wr.drew.heap.size := rfl
        have HG0 : Hid (wr.grownBy wr.drew (some g)) := Lib.hid (gdrew (⟨rfl, rfl, rfl, Nat.le_refl _, fun _ _ _ => rfl⟩ : wr.grownBy wr (some g)))
        have HSZ := Lib.hid hsz
        clear hsz
        generalize wr.drew = wd at HL0 HG0 HSZ ⊢
        have hgl := hL.out.hd.lt
        refine take_held _ ?_ rfl rfl (by decide) ?_ (fun K hK => ?_); rotate_left; (intro w0 hw0; obtain ⟨q1, q2, q3, q4⟩ := hw0; go_simp; (try rfl)); (go_simp; refine hK _ ?_; clear hK K)
        refine take_held _ ?_ rfl rfl (by decide) ?_ (fun K hK => ?_); rotate_left; (intro w0 hw0; obtain ⟨q1, q2, q3, q4⟩ := hw0; go_simp; (try rfl)); (go_simp; refine hK _ ?_; clear hK K)
        refine take_any _ ?_ rfl rfl ?_ (fun K hK => ?_); rotate_left; (intro w0; go_simp; (try rfl)); (go_simp; refine hK _ ?_; clear hK K)
        refine plan_cut [11, 41, 43, 44, 45] (fun vs wx => ∃ b x41 x43 x44 f2, vs = [.pointer (some ⟨b, 0, none⟩), x41, x43, x44, .agg #[.int .i64 1, .int .i64 f2]] ∧ Hid (f2 = 1 ∨ f2 = 2) ∧ wr.heap.size ≤ b ∧ Hid (Arr wx b 39 [.int .i64 0, .int .i64 0]) ∧ Hid (wr.grownBy wx (some g)) ∧ Hid (DiceAt g wx g)) ?_ ?_
        · skip
          refine ask_late _ rfl ?_ ?_
          rotate_left
          · skip
            go_wp2_with fail
            have HL1 := Lib.hid (HL0.out.alloc (.cells #[.int .i64 1, .int .i64 2, .int .i64 1, .int .i64 1] 39))
            have HG1 := Lib.hid (gtrans HG0.out (galloc wd (.cells #[.int .i64 1, .int .i64 2, .int .i64 1, .int .i64 1] 39) (some g)))
            have A41_1 := Lib.hid (Arr.new wd [.int .i64 1, .int .i64 2, .int .i64 1, .int .i64 1] 39)
            have hl1 : wr.heap.size ≤ wd.heap.size := HG0.out.size
            obtain ⟨b1, hb1⟩ : ∃ b, b = wd.heap.size := ⟨_, rfl⟩
            rw [← hb1] at A41_1 hl1
            (try rw [← hb1])
            clear hb1
            generalize World.alloc wd (.cells #[.int .i64 1, .int .i64 2, .int .i64 1, .int .i64 1] 39) = w1 at HL1 HG1 A41_1 ⊢
            refine Seg.mk ?_
            refine ask_late _ rfl ?_ ?_
            rotate_left
            · skip
              go_wp2_with (go_at_call 11; (with_reducible refine (N2.out _ HL1.out.hd).mono ?_); rintro e w2 ⟨⟨k2, hk2, rfl⟩, hg2, hd2⟩)
              have HL2 := Lib.hid (HL1.out.dice hg2 hd2)
              have HG2 := Lib.hid (gtrans HG1.out hg2)
              have hk2' : (k2 : Int) < 2 := by omega
              have A41_2 := Lib.hid (A41_1.out.kept hg2 (by intro e; injection e; omega))
              have hs2 := hg2.size
              clear hg2 hd2
              refine Seg.mk ?_
              refine take_any _ ?_ rfl rfl ?_ (fun K hK => ?_); rotate_left; (intro w0; go_simp; (try rfl)); (go_simp; refine hK _ ?_; clear hK K)
              refine ask_late _ rfl ?_ ?_
              rotate_left
              · skip
                obtain ⟨f2, hf2, c1, c2⟩ : ∃ f2 : Int, (f2 = 1 ∨ f2 = 2) ∧ w2.cell? ⟨b1, k2 * 2, none⟩ = some (.int .i64 1) ∧ w2.cell? ⟨b1, k2 * 2 + 1, none⟩ = some (.int .i64 f2) := by
                  rcases (by omega : k2 = 0 ∨ k2 = 1) with h | h
                  · rw [h]; exact ⟨2, .inr rfl, A41_2.out.cellAt rfl, A41_2.out.cellAt rfl⟩
                  · rw [h]; exact ⟨1, .inl rfl, A41_2.out.cellAt rfl, A41_2.out.cellAt rfl⟩
                have HF2 := Lib.hid hf2
                clear hf2
                go_wp2_with fail
                clear c1 c2
                refine Seg.mk ?_
                refine ask_late _ rfl trivial ?_
                go_wp2_with fail
                have HL4 := Lib.hid (HL2.out.alloc (.cells #[.int .i64 0, .int .i64 0] 39))
                have HG4 := Lib.hid (gtrans HG2.out (galloc w2 (.cells #[.int .i64 0, .int .i64 0] 39) (some g)))
                have A11_4 := Lib.hid (Arr.new w2 [.int .i64 0, .int .i64 0] 39)
                have A41_4 := Lib.hid (A41_2.out.alloc (.cells #[.int .i64 0, .int .i64 0] 39))
                have hl4 : wr.heap.size ≤ w2.heap.size := HG2.out.size
                obtain ⟨b4, hb4⟩ : ∃ b, b = w2.heap.size := ⟨_, rfl⟩
                rw [← hb4] at A11_4 hl4
                (try rw [← hb4])
                clear hb4
                generalize World.alloc w2 (.cells #[.int .i64 0, .int .i64 0] 39) = w4 at HL4 HG4 A41_4 A11_4 ⊢
                refine Seg.mk ?_
                exact plan_meet [.pointer (some ⟨b4, 0, none⟩), .slice (some ⟨b1, 0, none⟩) 2 2, .int .i64 (k2 : Nat), .pointer (some ⟨b1, k2 * 2, none⟩), .agg #[.int .i64 1, .int .i64 f2]] ⟨_, _, _, _, _, rfl, HF2, hl4, A11_4, HG4, Lib.hid HL4.out.hd⟩ (by simp only [puts, Act.put, List.setIfInBounds_toArray, List.set_cons_zero, List.set_cons_succ])
              · skip
                refine ask_late _ rfl trivial ?_
                go_wp2_with fail
                have HL5 := Lib.hid (HL2.out.alloc (.cells #[.int .i64 0, .int .i64 0] 39))
                have HG5 := Lib.hid (gtrans HG2.out (galloc w2 (.cells #[.int .i64 0, .int .i64 0] 39) (some g)))
                have A11_5 := Lib.hid (Arr.new w2 [.int .i64 0, .int .i64 0] 39)
                have A41_5 := Lib.hid (A41_2.out.alloc (.cells #[.int .i64 0, .int .i64 0] 39))
                have hl5 : wr.heap.size ≤ w2.heap.size := HG2.out.size
                obtain ⟨b5, hb5⟩ : ∃ b, b = w2.heap.size := ⟨_, rfl⟩
                rw [← hb5] at A11_5 hl5
                (try rw [← hb5])
                clear hb5
                generalize World.alloc w2 (.cells #[.int .i64 0, .int .i64 0] 39) = w5 at HL5 HG5 A41_5 A11_5 ⊢
                refine Seg.mk ?_
                refine ask_late _ rfl trivial ?_
                obtain ⟨f2, hf2, c1, c2⟩ : ∃ f2 : Int, (f2 = 1 ∨ f2 = 2) ∧ w5.cell? ⟨b1, k2 * 2, none⟩ = some (.int .i64 1) ∧ w5.cell? ⟨b1, k2 * 2 + 1, none⟩ = some (.int .i64 f2) := by
                  rcases (by omega : k2 = 0 ∨ k2 = 1) with h | h
                  · rw [h]; exact ⟨2, .inr rfl, A41_5.out.cellAt rfl, A41_5.out.cellAt rfl⟩
                  · rw [h]; exact ⟨1, .inl rfl, A41_5.out.cellAt rfl, A41_5.out.cellAt rfl⟩
                have HF2 := Lib.hid hf2
                clear hf2
                go_wp2_with fail
                clear c1 c2
                refine Seg.mk ?_
                exact plan_meet [.pointer (some ⟨b5, 0, none⟩), .slice (some ⟨b1, 0, none⟩) 2 2, .int .i64 (k2 : Nat), .pointer (some ⟨b1, k2 * 2, none⟩), .agg #[.int .i64 1, .int .i64 f2]] ⟨_, _, _, _, _, rfl, HF2, hl5, A11_5, HG5, Lib.hid HL5.out.hd⟩ (by simp only [puts, Act.put, List.setIfInBounds_toArray, List.set_cons_zero, List.set_cons_succ])
            · skip
              refine ask_late _ rfl trivial ?_
              go_wp2_with fail
              have HL7 := Lib.hid (HL1.out.alloc (.cells #[.int .i64 0, .int .i64 0] 39))
              have HG7 := Lib.hid (gtrans HG1.out (galloc w1 (.cells #[.int .i64 0, .int .i64 0] 39) (some g)))
              have A11_7 := Lib.hid (Arr.new w1 [.int .i64 0, .int .i64 0] 39)
              have A41_7 := Lib.hid (A41_1.out.alloc (.cells #[.int .i64 0, .int .i64 0] 39))
              have hl7 : wr.heap.size ≤ w1.heap.size := HG1.out.size
              obtain ⟨b7, hb7⟩ : ∃ b, b = w1.heap.size := ⟨_, rfl⟩
              rw [← hb7] at A11_7 hl7
              (try rw [← hb7])
              clear hb7
              generalize World.alloc w1 (.cells #[.int .i64 0, .int .i64 0] 39) = w7 at HL7 HG7 A41_7 A11_7 ⊢
              refine Seg.mk ?_
              refine ask_late _ rfl trivial ?_
              go_wp2_with (go_at_call 11; (with_reducible refine (N2.out _ HL7.out.hd).mono ?_); rintro e w8 ⟨⟨k8, hk8, rfl⟩, hg8, hd8⟩)
              have HL8 := Lib.hid (HL7.out.dice hg8 hd8)
              have HG8 := Lib.hid (gtrans HG7.out hg8)
              have hk8' : (k8 : Int) < 2 := by omega
              have A41_8 := Lib.hid (A41_7.out.kept hg8 (by intro e; injection e; omega))
              have A11_8 := Lib.hid (A11_7.out.kept hg8 (by intro e; injection e; omega))
              have hs8 := hg8.size
              clear hg8 hd8
              refine Seg.mk ?_
              refine take_any _ ?_ rfl rfl ?_ (fun K hK => ?_); rotate_left; (intro w0; go_simp; (try rfl)); (go_simp; refine hK _ ?_; clear hK K)
              refine ask_late _ rfl trivial ?_
              obtain ⟨f2, hf2, c1, c2⟩ : ∃ f2 : Int, (f2 = 1 ∨ f2 = 2) ∧ w8.cell? ⟨b1, k8 * 2, none⟩ = some (.int .i64 1) ∧ w8.cell? ⟨b1, k8 * 2 + 1, none⟩ = some (.int .i64 f2) := by
                rcases (by omega : k8 = 0 ∨ k8 = 1) with h | h
                · rw [h]; exact ⟨2, .inr rfl, A41_8.out.cellAt rfl, A41_8.out.cellAt rfl⟩
                · rw [h]; exact ⟨1, .inl rfl, A41_8.out.cellAt rfl, A41_8.out.cellAt rfl⟩
              have HF2 := Lib.hid hf2
              clear hf2
              go_wp2_with fail
              clear c1 c2
              refine Seg.mk ?_
              exact plan_meet [.pointer (some ⟨b7, 0, none⟩), .slice (some ⟨b1, 0, none⟩) 2 2, .int .i64 (k8 : Nat), .pointer (some ⟨b1, k8 * 2, none⟩), .agg #[.int .i64 1, .int .i64 f2]] ⟨_, _, _, _, _, rfl, HF2, hl7, A11_8, HG8, Lib.hid HL8.out.hd⟩ (by simp only [puts, Act.put, List.setIfInBounds_toArray, List.set_cons_zero, List.set_cons_succ])
          · skip
            refine ask_step _ rfl ?_ ?_
            rotate_left
            · skip
              go_wp2_with (go_at_call 11; (with_reducible refine (N2.out _ HL0.out.hd).mono ?_); rintro e w10 ⟨⟨k10, hk10, rfl⟩, hg10, hd10⟩)
              have HL10 := Lib.hid (HL0.out.dice hg10 hd10)
              have HG10 := Lib.hid (gtrans HG0.out hg10)
              have hk10' : (k10 : Int) < 2 := by omega
              have hs10 := hg10.size
              clear hg10 hd10
              refine Seg.mk ⟨⟨HL10.out.h1, HL10.out.h2, HL10.out.o1, HL10.out.o2⟩, ?_⟩
              refine ask_late _ rfl ?_ ?_
              rotate_left
              · skip
                go_wp2_with fail
                have HL11 := Lib.hid (HL10.out.alloc (.cells #[.int .i64 1, .int .i64 2, .int .i64 1, .int .i64 1] 39))
                have HG11 := Lib.hid (gtrans HG10.out (galloc w10 (.cells #[.int .i64 1, .int .i64 2, .int .i64 1, .int .i64 1] 39) (some g)))
                have A41_11 := Lib.hid (Arr.new w10 [.int .i64 1, .int .i64 2, .int .i64 1, .int .i64 1] 39)
                have hl11 : wr.heap.size ≤ w10.heap.size := HG10.out.size
                obtain ⟨b11, hb11⟩ : ∃ b, b = w10.heap.size := ⟨_, rfl⟩
                rw [← hb11] at A41_11 hl11
                (try rw [← hb11])
                clear hb11
                generalize World.alloc w10 (.cells #[.int .i64 1, .int .i64 2, .int .i64 1, .int .i64 1] 39) = w11 at HL11 HG11 A41_11 ⊢
                refine Seg.mk ?_
                refine take_any _ ?_ rfl rfl ?_ (fun K hK => ?_); rotate_left; (intro w0; go_simp; (try rfl)); (go_simp; refine hK _ ?_; clear hK K)
                refine ask_late _ rfl ?_ ?_
                rotate_left
                · skip
                  obtain ⟨f2, hf2, c1, c2⟩ : ∃ f2 : Int, (f2 = 1 ∨ f2 = 2) ∧ w11.cell? ⟨b11, k10 * 2, none⟩ = some (.int .i64 1) ∧ w11.cell? ⟨b11, k10 * 2 + 1, none⟩ = some (.int .i64 f2) := by
                    rcases (by omega : k10 = 0 ∨ k10 = 1) with h | h
                    · rw [h]; exact ⟨2, .inr rfl, A41_11.out.cellAt rfl, A41_11.out.cellAt rfl⟩
                    · rw [h]; exact ⟨1, .inl rfl, A41_11.out.cellAt rfl, A41_11.out.cellAt rfl⟩
                  have HF2 := Lib.hid hf2
                  clear hf2
                  go_wp2_with fail
                  clear c1 c2
                  refine Seg.mk ?_
                  refine ask_late _ rfl trivial ?_
                  go_wp2_with fail
                  have HL13 := Lib.hid (HL11.out.alloc (.cells #[.int .i64 0, .int .i64 0] 39))
                  have HG13 := Lib.hid (gtrans HG11.out (galloc w11 (.cells #[.int .i64 0, .int .i64 0] 39) (some g)))
                  have A11_13 := Lib.hid (Arr.new w11 [.int .i64 0, .int .i64 0] 39)
                  have A41_13 := Lib.hid (A41_11.out.alloc (.cells #[.int .i64 0, .int .i64 0] 39))
                  have hl13 : wr.heap.size ≤ w11.heap.size := HG11.out.size
                  obtain ⟨b13, hb13⟩ : ∃ b, b = w11.heap.size := ⟨_, rfl⟩
                  rw [← hb13] at A11_13 hl13
                  (try rw [← hb13])
                  clear hb13
                  generalize World.alloc w11 (.cells #[.int .i64 0, .int .i64 0] 39) = w13 at HL13 HG13 A41_13 A11_13 ⊢
                  refine Seg.mk ?_
                  exact plan_meet [.pointer (some ⟨b13, 0, none⟩), .slice (some ⟨b11, 0, none⟩) 2 2, .int .i64 (k10 : Nat), .pointer (some ⟨b11, k10 * 2, none⟩), .agg #[.int .i64 1, .int .i64 f2]] ⟨_, _, _, _, _, rfl, HF2, hl13, A11_13, HG13, Lib.hid HL13.out.hd⟩ (by simp only [puts, Act.put, List.setIfInBounds_toArray, List.set_cons_zero, List.set_cons_succ])
                · skip
                  refine ask_late _ rfl trivial ?_
                  go_wp2_with fail
                  have HL14 := Lib.hid (HL11.out.alloc (.cells #[.int .i64 0, .int .i64 0] 39))
                  have HG14 := Lib.hid (gtrans HG11.out (galloc w11 (.cells #[.int .i64 0, .int .i64 0] 39) (some g)))
                  have A11_14 := Lib.hid (Arr.new w11 [.int .i64 0, .int .i64 0] 39)
                  have A41_14 := Lib.hid (A41_11.out.alloc (.cells #[.int .i64 0, .int .i64 0] 39))
                  have hl14 : wr.heap.size ≤ w11.heap.size := HG11.out.size
                  obtain ⟨b14, hb14⟩ : ∃ b, b = w11.heap.size := ⟨_, rfl⟩
                  rw [← hb14] at A11_14 hl14
                  (try rw [← hb14])
                  clear hb14
                  generalize World.alloc w11 (.cells #[.int .i64 0, .int .i64 0] 39) = w14 at HL14 HG14 A41_14 A11_14 ⊢
                  refine Seg.mk ?_
                  refine ask_late _ rfl trivial ?_
                  obtain ⟨f2, hf2, c1, c2⟩ : ∃ f2 : Int, (f2 = 1 ∨ f2 = 2) ∧ w14.cell? ⟨b11, k10 * 2, none⟩ = some (.int .i64 1) ∧ w14.cell? ⟨b11, k10 * 2 + 1, none⟩ = some (.int .i64 f2) := by
                    rcases (by omega : k10 = 0 ∨ k10 = 1) with h | h
                    · rw [h]; exact ⟨2, .inr rfl, A41_14.out.cellAt rfl, A41_14.out.cellAt rfl⟩
                    · rw [h]; exact ⟨1, .inl rfl, A41_14.out.cellAt rfl, A41_14.out.cellAt rfl⟩
                  have HF2 := Lib.hid hf2
                  clear hf2
                  go_wp2_with fail
                  clear c1 c2
                  refine Seg.mk ?_
                  exact plan_meet [.pointer (some ⟨b14, 0, none⟩), .slice (some ⟨b11, 0, none⟩) 2 2, .int .i64 (k10 : Nat), .pointer (some ⟨b11, k10 * 2, none⟩), .agg #[.int .i64 1, .int .i64 f2]] ⟨_, _, _, _, _, rfl, HF2, hl14, A11_14, HG14, Lib.hid HL14.out.hd⟩ (by simp only [puts, Act.put, List.setIfInBounds_toArray, List.set_cons_zero, List.set_cons_succ])
              · skip
                refine ask_step _ rfl trivial ?_
                go_wp2_with fail
                have HL16 := Lib.hid (HL10.out.alloc (.cells #[.int .i64 0, .int .i64 0] 39))
                have HG16 := Lib.hid (gtrans HG10.out (galloc w10 (.cells #[.int .i64 0, .int .i64 0] 39) (some g)))
                have A11_16 := Lib.hid (Arr.new w10 [.int .i64 0, .int .i64 0] 39)
                have hl16 : wr.heap.size ≤ w10.heap.size := HG10.out.size
                obtain ⟨b16, hb16⟩ : ∃ b, b = w10.heap.size := ⟨_, rfl⟩
                rw [← hb16] at A11_16 hl16
                (try rw [← hb16])
                clear hb16
                generalize World.alloc w10 (.cells #[.int .i64 0, .int .i64 0] 39) = w16 at HL16 HG16 A11_16 ⊢
                refine Seg.mk ⟨⟨HL16.out.h1, HL16.out.h2, HL16.out.o1, HL16.out.o2⟩, ?_⟩
                refine ask_late _ rfl trivial ?_
                go_wp2_with fail
                have HL17 := Lib.hid (HL16.out.alloc (.cells #[.int .i64 1, .int .i64 2, .int .i64 1, .int .i64 1] 39))
                have HG17 := Lib.hid (gtrans HG16.out (galloc w16 (.cells #[.int .i64 1, .int .i64 2, .int .i64 1, .int .i64 1] 39) (some g)))
                have A41_17 := Lib.hid (Arr.new w16 [.int .i64 1, .int .i64 2, .int .i64 1, .int .i64 1] 39)
                have A11_17 := Lib.hid (A11_16.out.alloc (.cells #[.int .i64 1, .int .i64 2, .int .i64 1, .int .i64 1] 39))
                have hl17 : wr.heap.size ≤ w16.heap.size := HG16.out.size
                obtain ⟨b17, hb17⟩ : ∃ b, b = w16.heap.size := ⟨_, rfl⟩
                rw [← hb17] at A41_17 hl17
                (try rw [← hb17])
                clear hb17
                generalize World.alloc w16 (.cells #[.int .i64 1, .int .i64 2, .int .i64 1, .int .i64 1] 39) = w17 at HL17 HG17 A41_17 A11_17 ⊢
                refine Seg.mk ?_
                refine take_any _ ?_ rfl rfl ?_ (fun K hK => ?_); rotate_left; (intro w0; go_simp; (try rfl)); (go_simp; refine hK _ ?_; clear hK K)
                refine ask_late _ rfl trivial ?_
                obtain ⟨f2, hf2, c1, c2⟩ : ∃ f2 : Int, (f2 = 1 ∨ f2 = 2) ∧ w17.cell? ⟨b17, k10 * 2, none⟩ = some (.int .i64 1) ∧ w17.cell? ⟨b17, k10 * 2 + 1, none⟩ = some (.int .i64 f2) := by
                  rcases (by omega : k10 = 0 ∨ k10 = 1) with h | h
                  · rw [h]; exact ⟨2, .inr rfl, A41_17.out.cellAt rfl, A41_17.out.cellAt rfl⟩
                  · rw [h]; exact ⟨1, .inl rfl, A41_17.out.cellAt rfl, A41_17.out.cellAt rfl⟩
                have HF2 := Lib.hid hf2
                clear hf2
                go_wp2_with fail
                clear c1 c2
                refine Seg.mk ?_
                exact plan_meet [.pointer (some ⟨b16, 0, none⟩), .slice (some ⟨b17, 0, none⟩) 2 2, .int .i64 (k10 : Nat), .pointer (some ⟨b17, k10 * 2, none⟩), .agg #[.int .i64 1, .int .i64 f2]] ⟨_, _, _, _, _, rfl, HF2, hl16, A11_17, HG17, Lib.hid HL17.out.hd⟩ (by simp only [puts, Act.put, List.setIfInBounds_toArray, List.set_cons_zero, List.set_cons_succ])
            · skip
              refine ask_step _ rfl trivial ?_
              go_wp2_with fail
              have HL19 := Lib.hid (HL0.out.alloc (.cells #[.int .i64 0, .int .i64 0] 39))
              have HG19 := Lib.hid (gtrans HG0.out (galloc wd (.cells #[.int .i64 0, .int .i64 0] 39) (some g)))
              have A11_19 := Lib.hid (Arr.new wd [.int .i64 0, .int .i64 0] 39)
              have hl19 : wr.heap.size ≤ wd.heap.size := HG0.out.size
              obtain ⟨b19, hb19⟩ : ∃ b, b = wd.heap.size := ⟨_, rfl⟩
              rw [← hb19] at A11_19 hl19
              (try rw [← hb19])
              clear hb19
              generalize World.alloc wd (.cells #[.int .i64 0, .int .i64 0] 39) = w19 at HL19 HG19 A11_19 ⊢
              refine Seg.mk ⟨⟨HL19.out.h1, HL19.out.h2, HL19.out.o1, HL19.out.o2⟩, ?_⟩
              refine ask_late _ rfl ?_ ?_
              rotate_left
              · skip
                go_wp2_with fail
                have HL20 := Lib.hid (HL19.out.alloc (.cells #[.int .i64 1, .int .i64 2, .int .i64 1, .int .i64 1] 39))
                have HG20 := Lib.hid (gtrans HG19.out (galloc w19 (.cells #[.int .i64 1, .int .i64 2, .int .i64 1, .int .i64 1] 39) (some g)))
                have A41_20 := Lib.hid (Arr.new w19 [.int .i64 1, .int .i64 2, .int .i64 1, .int .i64 1] 39)
                have A11_20 := Lib.hid (A11_19.out.alloc (.cells #[.int .i64 1, .int .i64 2, .int .i64 1, .int .i64 1] 39))
                have hl20 : wr.heap.size ≤ w19.heap.size := HG19.out.size
                obtain ⟨b20, hb20⟩ : ∃ b, b = w19.heap.size := ⟨_, rfl⟩
                rw [← hb20] at A41_20 hl20
                (try rw [← hb20])
                clear hb20
                generalize World.alloc w19 (.cells #[.int .i64 1, .int .i64 2, .int .i64 1, .int .i64 1] 39) = w20 at HL20 HG20 A41_20 A11_20 ⊢
                refine Seg.mk ?_
                refine ask_late _ rfl trivial ?_
                go_wp2_with (go_at_call 11; (with_reducible refine (N2.out _ HL20.out.hd).mono ?_); rintro e w21 ⟨⟨k21, hk21, rfl⟩, hg21, hd21⟩)
                have HL21 := Lib.hid (HL20.out.dice hg21 hd21)
                have HG21 := Lib.hid (gtrans HG20.out hg21)
                have hk21' : (k21 : Int) < 2 := by omega
                have A41_21 := Lib.hid (A41_20.out.kept hg21 (by intro e; injection e; omega))
                have A11_21 := Lib.hid (A11_20.out.kept hg21 (by intro e; injection e; omega))
                have hs21 := hg21.size
                clear hg21 hd21
                refine Seg.mk ?_
                refine take_any _ ?_ rfl rfl ?_ (fun K hK => ?_); rotate_left; (intro w0; go_simp; (try rfl)); (go_simp; refine hK _ ?_; clear hK K)
                refine ask_late _ rfl trivial ?_
                obtain ⟨f2, hf2, c1, c2⟩ : ∃ f2 : Int, (f2 = 1 ∨ f2 = 2) ∧ w21.cell? ⟨b20, k21 * 2, none⟩ = some (.int .i64 1) ∧ w21.cell? ⟨b20, k21 * 2 + 1, none⟩ = some (.int .i64 f2) := by
                  rcases (by omega : k21 = 0 ∨ k21 = 1) with h | h
                  · rw [h]; exact ⟨2, .inr rfl, A41_21.out.cellAt rfl, A41_21.out.cellAt rfl⟩
                  · rw [h]; exact ⟨1, .inl rfl, A41_21.out.cellAt rfl, A41_21.out.cellAt rfl⟩
                have HF2 := Lib.hid hf2
                clear hf2
                go_wp2_with fail
                clear c1 c2
                refine Seg.mk ?_
                exact plan_meet [.pointer (some ⟨b19, 0, none⟩), .slice (some ⟨b20, 0, none⟩) 2 2, .int .i64 (k21 : Nat), .pointer (some ⟨b20, k21 * 2, none⟩), .agg #[.int .i64 1, .int .i64 f2]] ⟨_, _, _, _, _, rfl, HF2, hl19, A11_21, HG21, Lib.hid HL21.out.hd⟩ (by simp only [puts, Act.put, List.setIfInBounds_toArray, List.set_cons_zero, List.set_cons_succ])
              · skip
                refine ask_step _ rfl trivial ?_
                go_wp2_with (go_at_call 11; (with_reducible refine (N2.out _ HL19.out.hd).mono ?_); rintro e w23 ⟨⟨k23, hk23, rfl⟩, hg23, hd23⟩)
                have HL23 := Lib.hid (HL19.out.dice hg23 hd23)
                have HG23 := Lib.hid (gtrans HG19.out hg23)
                have hk23' : (k23 : Int) < 2 := by omega
                have A11_23 := Lib.hid (A11_19.out.kept hg23 (by intro e; injection e; omega))
                have hs23 := hg23.size
                clear hg23 hd23
                refine Seg.mk ⟨⟨HL23.out.h1, HL23.out.h2, HL23.out.o1, HL23.out.o2⟩, ?_⟩
                refine ask_late _ rfl trivial ?_
                go_wp2_with fail
                have HL24 := Lib.hid (HL23.out.alloc (.cells #[.int .i64 1, .int .i64 2, .int .i64 1, .int .i64 1] 39))
                have HG24 := Lib.hid (gtrans HG23.out (galloc w23 (.cells #[.int .i64 1, .int .i64 2, .int .i64 1, .int .i64 1] 39) (some g)))
                have A41_24 := Lib.hid (Arr.new w23 [.int .i64 1, .int .i64 2, .int .i64 1, .int .i64 1] 39)
                have A11_24 := Lib.hid (A11_23.out.alloc (.cells #[.int .i64 1, .int .i64 2, .int .i64 1, .int .i64 1] 39))
                have hl24 : wr.heap.size ≤ w23.heap.size := HG23.out.size
                obtain ⟨b24, hb24⟩ : ∃ b, b = w23.heap.size := ⟨_, rfl⟩
                rw [← hb24] at A41_24 hl24
                (try rw [← hb24])
                clear hb24
                generalize World.alloc w23 (.cells #[.int .i64 1, .int .i64 2, .int .i64 1, .int .i64 1] 39) = w24 at HL24 HG24 A41_24 A11_24 ⊢
                refine Seg.mk ?_
                refine take_any _ ?_ rfl rfl ?_ (fun K hK => ?_); rotate_left; (intro w0; go_simp; (try rfl)); (go_simp; refine hK _ ?_; clear hK K)
                refine ask_late _ rfl trivial ?_
                obtain ⟨f2, hf2, c1, c2⟩ : ∃ f2 : Int, (f2 = 1 ∨ f2 = 2) ∧ w24.cell? ⟨b24, k23 * 2, none⟩ = some (.int .i64 1) ∧ w24.cell? ⟨b24, k23 * 2 + 1, none⟩ = some (.int .i64 f2) := by
                  rcases (by omega : k23 = 0 ∨ k23 = 1) with h | h
                  · rw [h]; exact ⟨2, .inr rfl, A41_24.out.cellAt rfl, A41_24.out.cellAt rfl⟩
                  · rw [h]; exact ⟨1, .inl rfl, A41_24.out.cellAt rfl, A41_24.out.cellAt rfl⟩
                have HF2 := Lib.hid hf2
                clear hf2
                go_wp2_with fail
                clear c1 c2
                refine Seg.mk ?_
                exact plan_meet [.pointer (some ⟨b19, 0, none⟩), .slice (some ⟨b24, 0, none⟩) 2 2, .int .i64 (k23 : Nat), .pointer (some ⟨b24, k23 * 2, none⟩), .agg #[.int .i64 1, .int .i64 f2]] ⟨_, _, _, _, _, rfl, HF2, hl19, A11_24, HG24, Lib.hid HL24.out.hd⟩ (by simp only [puts, Act.put, List.setIfInBounds_toArray, List.set_cons_zero, List.set_cons_succ])
        rintro vs w8 ⟨b, x41, x43, x44, f2, rfl, hf2, hbb, hA11, hG8, hD8⟩; simp only [puts, Act.put, List.setIfInBounds_toArray, List.set_cons_zero, List.set_cons_succ]
        refine ask_last _ rfl trivial ?_
        go_wp2_with (refine wp_st rfl 39 (.tmp 11) (.tmp 45) rfl _ [.int .i64 1, .int .i64 f2] rfl rfl hA11.out Try.infofr rfl rfl (one2 _ _) ?_)
        have HA := Lib.hid (hA11.out.setRow [.int .i64 1, .int .i64 f2])
        have HGx := Lib.hid (grown_row hG8.out b hbb [.int .i64 1, .int .i64 f2].toArray)
        have hgl2 := hL.out.hd.lt
        have HDx := Lib.hid (hD8.out.same (w' := w8.setRow b [.int .i64 1, .int .i64 f2].toArray) (fun i hi => setRow_other w8 b i _ (by omega)))
        go_meet
        exact ⟨b, f2, rfl, hf2, HA, hbb, HGx, HDx⟩
      case rest =>
        obtain ⟨b, f2, rfl, hf2, hArr, hbb, hgr, hd⟩ := hcut
        have hgC : g < C0 + 2 := by have := hL.out.hC; omega
        have HLc := Lib.hid (hL.out.dice hgr.out hd.out)
        have HAc := Lib.hid (owns_grown hOA.out hgr.out hgC)
        have HBc := Lib.hid (owns_grown hOB.out hgr.out hgC)
        have y1 : wc.cell? ⟨b, 0, none⟩ = some (.int .i64 1) := hArr.out.cellAt rfl
        have y2 : wc.cell? ⟨b, 1, none⟩ = some (.int .i64 f2) := hArr.out.cellAt rfl
        have hAl8 : A.length ≤ 4 := by rw [hAl.out]; omega
        have hBl8 : B.length ≤ 8 := by rw [hBl.out]; omega
        have hbC : C0 + 2 ≤ b := by have := hL.out.lt; omega
        have hbA : ∀ x, (Value.slice ao A.length ac).ownBlock = some x → x ≠ b := fun x hx => by have := (hOA.out.lt x hx).2; omega
        have hbB : ∀ x, (Value.slice bo B.length bc).ownBlock = some x → x ≠ b := fun x hx => by have := (hOB.out.lt x hx).2; omega
        have z1 := HLc.out.o1
        have z2 := HLc.out.o2
        clear hL hOA hOB hgr hd
        by_cases hj0 : j = 0
        · have hb0 : ((j : Int) == 0) = true := by simp [hj0]
          have hjn : j < n := by omega
          have hjni : (j : Int) < (n : Int) := by omega
          clear hj0
          go_upto_region 13 with (refine wp_st rfl 39 (.tmp 11) (.tmp 53) rfl _ [.int .i64 1, .int .i64 1] rfl rfl hArr.out Try.infofr rfl rfl (one2 _ _) ?_)
          have HL5 := Lib.hid (HLc.out.row hbC [.int .i64 1, .int .i64 1].toArray)
          have HA5 := Lib.hid (own_setRow HAc.out b [.int .i64 1, .int .i64 1].toArray hbA)
          have HB5 := Lib.hid (own_setRow HBc.out b [.int .i64 1, .int .i64 1].toArray hbB)
          have HAr := hArr.out.setRow [.int .i64 1, .int .i64 1]
          clear z1 z2 y1 y2 hArr HLc HAc HBc
          generalize wc.setRow b _ = w5 at HL5 HA5 HB5 HAr ⊢
          have y1 : w5.cell? ⟨b, 0, none⟩ = some (.int .i64 1) := HAr.cellAt rfl
          have y2 : w5.cell? ⟨b, 1, none⟩ = some (.int .i64 1) := HAr.cellAt rfl
          have HFW : Hid (wtB (1, 1) = true) := Lib.hid (by decide)
          have HF1 : Hid (j = 0 ∨ j = n → (((1 : Int), (1 : Int)) : FR) = (1, 1)) := Lib.hid (fun _ => rfl)
          clear HAr
          have hca := HL5.out.lt
          have hcap : C0 + 2 ≤ (w5.alloc (.cells #[.int .i64 1, .int .i64 1] 39)).heap.size := by simp; omega
          have HLa := Lib.hid (HL5.out.alloc (.cells #[.int .i64 1, .int .i64 1] 39))
          have HAa := Lib.hid (HA5.out.alloc (.cells #[.int .i64 1, .int .i64 1] 39))
          have HBa := Lib.hid (HB5.out.alloc (.cells #[.int .i64 1, .int .i64 1] 39))
          go_wp2_with (at_builtin; go_loud (refine wpList_append_own_at _ rfl (.tmp 57) (.tmp 59) 26 rfl (C0 + 2) 39 i0 (.agg #[.int .i64 0, .int .i64 0]) 2 16 Try.underlying26 HI.out.1 HI.out.2.1 HI.out.2.2.1 HI.out.2.2.2 rfl (by decide) _ A.length _ rfl HAa.out ⟨w5.heap.size, 0, none⟩ 1 1 [.int .i64 1, .int .i64 1] rfl rfl (cells_new _ _ _ _ rfl) (one2 _ _) (by unfold maxLen; omega) (by omega) hcap ?_); intro v2 w4 hO2 hg2 _ hat)
          obtain ⟨a2, c2, rfl, -, -⟩ := own_form2 hO2
          have HL4 := Lib.hid (HLa.out.own (Nat.le_refl _) HAa.out hg2)
          have HB4 := Lib.hid (HBa.out.kept hg2 hSep.out.symm)
          have HS4 := Lib.hid (hSep.out.app hat (fun x hx => (HBa.out.lt x hx).2))
          have hlen2 : (A ++ [((1 : Int), 1)]).length = A.length + 1 := by simp
          rw [← cellsF_snoc A ((1 : Int), 1), ← hlen2] at hO2
          rw [← hlen2] at HS4
          rw [← hlen2]
          have HO4 := Lib.hid hO2
          have HLEN : Hid ((A ++ [((1 : Int), 1)]).length = min (j + 1) n) := Lib.hid (by rw [hlen2, hAl.out]; omega)
          have HLEB : Hid (B.length = j + 1 - n) := Lib.hid (by rw [hBl.out]; omega)
          have HGA := Lib.hid (hA.out.snoc HFW.out (fun h => HF1.out (.inl (by have := hAl.out; rw [h] at this; simp at this; omega))))
          clear hg2 hat hlen2 hO2 HAa HBa HLa hA hAl hBl hSep HA5 HB5
          generalize A ++ [((1 : Int), 1)] = A2 at HLEN HS4 HO4 HGA ⊢
          go_wp2
          exact ⟨⟨j + 1, A2, B, a2, bo, c2, bc, by omega, by go_num, rfl, rfl, HLEN, HLEB, HGA, hB, HO4, HB4, HS4, HL4⟩, by simp [intOf]; omega⟩
        by_cases hjn : j = n
        · have hb0 : ((j : Int) == 0) = false := by simp [hj0]
          have hb1 : ((j : Int) == (n : Int)) = true := by simp [hjn]
          have hjni : ¬ (j : Int) < (n : Int) := by omega
          have hjn2 : ¬ j < n := by omega
          clear hj0 hjn
          go_upto_region 13 with (refine wp_st rfl 39 (.tmp 11) (.tmp 53) rfl _ [.int .i64 1, .int .i64 1] rfl rfl hArr.out Try.infofr rfl rfl (one2 _ _) ?_)
          have HL5 := Lib.hid (HLc.out.row hbC [.int .i64 1, .int .i64 1].toArray)
          have HA5 := Lib.hid (own_setRow HAc.out b [.int .i64 1, .int .i64 1].toArray hbA)
          have HB5 := Lib.hid (own_setRow HBc.out b [.int .i64 1, .int .i64 1].toArray hbB)
          have HAr := hArr.out.setRow [.int .i64 1, .int .i64 1]
          clear z1 z2 y1 y2 hArr HLc HAc HBc
          generalize wc.setRow b _ = w5 at HL5 HA5 HB5 HAr ⊢
          have y1 : w5.cell? ⟨b, 0, none⟩ = some (.int .i64 1) := HAr.cellAt rfl
          have y2 : w5.cell? ⟨b, 1, none⟩ = some (.int .i64 1) := HAr.cellAt rfl
          have HFW : Hid (wtB (1, 1) = true) := Lib.hid (by decide)
          have HF1 : Hid (j = 0 ∨ j = n → (((1 : Int), (1 : Int)) : FR) = (1, 1)) := Lib.hid (fun _ => rfl)
          clear HAr
          have hca := HL5.out.lt
          have hcap : C0 + 2 ≤ (w5.alloc (.cells #[.int .i64 1, .int .i64 1] 39)).heap.size := by simp; omega
          have HLa := Lib.hid (HL5.out.alloc (.cells #[.int .i64 1, .int .i64 1] 39))
          have HAa := Lib.hid (HA5.out.alloc (.cells #[.int .i64 1, .int .i64 1] 39))
          have HBa := Lib.hid (HB5.out.alloc (.cells #[.int .i64 1, .int .i64 1] 39))
          go_wp2_with (at_builtin; go_loud (refine wpList_append_own_at _ rfl (.tmp 61) (.tmp 63) 26 rfl (C0 + 2) 39 i0 (.agg #[.int .i64 0, .int .i64 0]) 2 16 Try.underlying26 HI.out.1 HI.out.2.1 HI.out.2.2.1 HI.out.2.2.2 rfl (by decide) _ B.length _ rfl HBa.out ⟨w5.heap.size, 0, none⟩ 1 1 [.int .i64 1, .int .i64 1] rfl rfl (cells_new _ _ _ _ rfl) (one2 _ _) (by unfold maxLen; omega) (by omega) hcap ?_); intro v2 w4 hO2 hg2 _ hat)
          obtain ⟨a2, c2, rfl, -, -⟩ := own_form2 hO2
          have HL4 := Lib.hid (HLa.out.own (Nat.le_refl _) HBa.out hg2)
          have HB4 := Lib.hid (HAa.out.kept hg2 hSep.out)
          have HS4 := Lib.hid ((hSep.out.symm.app hat (fun x hx => (HAa.out.lt x hx).2)).symm)
          have hlen2 : (B ++ [((1 : Int), 1)]).length = B.length + 1 := by simp
          rw [← cellsF_snoc B ((1 : Int), 1), ← hlen2] at hO2
          rw [← hlen2] at HS4
          rw [← hlen2]
          have HO4 := Lib.hid hO2
          have HLEN : Hid (A.length = min (j + 1) n) := Lib.hid (by rw [hAl.out]; omega)
          have HLEB : Hid ((B ++ [((1 : Int), 1)]).length = j + 1 - n) := Lib.hid (by rw [hlen2, hBl.out]; omega)
          have HGB := Lib.hid (hB.out.snoc HFW.out (fun h => HF1.out (.inr (by have := hBl.out; rw [h] at this; simp at this; omega))))
          clear hg2 hat hlen2 hO2 HAa HBa HLa hB hAl hBl hSep HA5 HB5
          generalize B ++ [((1 : Int), 1)] = B2 at HLEB HS4 HO4 HGB ⊢
          go_wp2
          exact ⟨⟨j + 1, A, B2, ao, a2, ac, c2, by omega, by go_num, rfl, rfl, HLEN, HLEB, hA, HGB, HB4, HO4, HS4, HL4⟩, by simp [intOf]; omega⟩
        have hb0 : ((j : Int) == 0) = false := by simp [hj0]
        have hb1 : ((j : Int) == (n : Int)) = false := by simp; omega
        have HFW : Hid (wtB (1, f2) = true) := Lib.hid (by rcases hf2.out with h | h <;> rw [h] <;> decide)
        have HF1 : Hid (j = 0 ∨ j = n → (((1 : Int), f2) : FR) = (1, 1)) := Lib.hid (by omega)
        clear hj0 hf2 z1 z2
        go_upto_region 13 with fail
        have HL5 := HLc
        have HA5 := HAc
        have HB5 := HBc
        clear HLc HAc HBc hArr
        obtain ⟨w5, hw5⟩ : ∃ w5, w5 = wc := ⟨_, rfl⟩
        rw [← hw5] at HL5 HA5 HB5 y1 y2 ⊢
        clear hw5
        by_cases hjn2 : j < n
        · have hjni : (j : Int) < (n : Int) := by omega
          have hca := HL5.out.lt
          have hcap : C0 + 2 ≤ (w5.alloc (.cells #[.int .i64 1, .int .i64 f2] 39)).heap.size := by simp; omega
          have HLa := Lib.hid (HL5.out.alloc (.cells #[.int .i64 1, .int .i64 f2] 39))
          have HAa := Lib.hid (HA5.out.alloc (.cells #[.int .i64 1, .int .i64 f2] 39))
          have HBa := Lib.hid (HB5.out.alloc (.cells #[.int .i64 1, .int .i64 f2] 39))
          go_wp2_with (at_builtin; go_loud (refine wpList_append_own_at _ rfl (.tmp 57) (.tmp 59) 26 rfl (C0 + 2) 39 i0 (.agg #[.int .i64 0, .int .i64 0]) 2 16 Try.underlying26 HI.out.1 HI.out.2.1 HI.out.2.2.1 HI.out.2.2.2 rfl (by decide) _ A.length _ rfl HAa.out ⟨w5.heap.size, 0, none⟩ 1 1 [.int .i64 1, .int .i64 f2] rfl rfl (cells_new _ _ _ _ rfl) (one2 _ _) (by unfold maxLen; omega) (by omega) hcap ?_); intro v2 w4 hO2 hg2 _ hat)
          obtain ⟨a2, c2, rfl, -, -⟩ := own_form2 hO2
          have HL4 := Lib.hid (HLa.out.own (Nat.le_refl _) HAa.out hg2)
          have HB4 := Lib.hid (HBa.out.kept hg2 hSep.out.symm)
          have HS4 := Lib.hid (hSep.out.app hat (fun x hx => (HBa.out.lt x hx).2))
          have hlen2 : (A ++ [((1 : Int), f2)]).length = A.length + 1 := by simp
          rw [← cellsF_snoc A ((1 : Int), f2), ← hlen2] at hO2
          rw [← hlen2] at HS4
          rw [← hlen2]
          have HO4 := Lib.hid hO2
          have HLEN : Hid ((A ++ [((1 : Int), f2)]).length = min (j + 1) n) := Lib.hid (by rw [hlen2, hAl.out]; omega)
          have HLEB : Hid (B.length = j + 1 - n) := Lib.hid (by rw [hBl.out]; omega)
          have HGA := Lib.hid (hA.out.snoc HFW.out (fun h => HF1.out (.inl (by have := hAl.out; rw [h] at this; simp at this; omega))))
          clear hg2 hat hlen2 hO2 HAa HBa HLa hA hAl hBl hSep HA5 HB5
          generalize A ++ [((1 : Int), f2)] = A2 at HLEN HS4 HO4 HGA ⊢
          go_wp2
          exact ⟨⟨j + 1, A2, B, a2, bo, c2, bc, by omega, by go_num, rfl, rfl, HLEN, HLEB, HGA, hB, HO4, HB4, HS4, HL4⟩, by simp [intOf]; omega⟩
        · have hjni : ¬ (j : Int) < (n : Int) := by omega
          have hca := HL5.out.lt
          have hcap : C0 + 2 ≤ (w5.alloc (.cells #[.int .i64 1, .int .i64 f2] 39)).heap.size := by simp; omega
          have HLa := Lib.hid (HL5.out.alloc (.cells #[.int .i64 1, .int .i64 f2] 39))
          have HAa := Lib.hid (HA5.out.alloc (.cells #[.int .i64 1, .int .i64 f2] 39))
          have HBa := Lib.hid (HB5.out.alloc (.cells #[.int .i64 1, .int .i64 f2] 39))
          go_wp2_with (at_builtin; go_loud (refine wpList_append_own_at _ rfl (.tmp 61) (.tmp 63) 26 rfl (C0 + 2) 39 i0 (.agg #[.int .i64 0, .int .i64 0]) 2 16 Try.underlying26 HI.out.1 HI.out.2.1 HI.out.2.2.1 HI.out.2.2.2 rfl (by decide) _ B.length _ rfl HBa.out ⟨w5.heap.size, 0, none⟩ 1 1 [.int .i64 1, .int .i64 f2] rfl rfl (cells_new _ _ _ _ rfl) (one2 _ _) (by unfold maxLen; omega) (by omega) hcap ?_); intro v2 w4 hO2 hg2 _ hat)
          obtain ⟨a2, c2, rfl, -, -⟩ := own_form2 hO2
          have HL4 := Lib.hid (HLa.out.own (Nat.le_refl _) HBa.out hg2)
          have HB4 := Lib.hid (HAa.out.kept hg2 hSep.out)
          have HS4 := Lib.hid ((hSep.out.symm.app hat (fun x hx => (HAa.out.lt x hx).2)).symm)
          have hlen2 : (B ++ [((1 : Int), f2)]).length = B.length + 1 := by simp
          rw [← cellsF_snoc B ((1 : Int), f2), ← hlen2] at hO2
          rw [← hlen2] at HS4
          rw [← hlen2]
          have HO4 := Lib.hid hO2
          have HLEN : Hid (A.length = min (j + 1) n) := Lib.hid (by rw [hAl.out]; omega)
          have HLEB : Hid ((B ++ [((1 : Int), f2)]).length = j + 1 - n) := Lib.hid (by rw [hlen2, hBl.out]; omega)
          have HGB := Lib.hid (hB.out.snoc HFW.out (fun h => HF1.out (.inr (by have := hBl.out; rw [h] at this; simp at this; omega))))
          clear hg2 hat hlen2 hO2 HAa HBa HLa hB hAl hBl hSep HA5 HB5
          generalize B ++ [((1 : Int), f2)] = B2 at HLEB HS4 HO4 HGB ⊢
          go_wp2
          exact ⟨⟨j + 1, A, B2, ao, a2, ac, c2, by omega, by go_num, rfl, rfl, HLEN, HLEB, hA, HGB, HB4, HO4, HS4, HL4⟩, by simp [intOf]; omega⟩
    · obtain rfl : T = j := by omega
      have HTT := HT.out
      have hAn : A.length = n := by rw [hAl.out]; omega
      have hBm : B.length = m := by rw [hBl.out]; omega
      obtain ⟨gA, acap, eA, hgA, hA1, hA2, hRA⟩ := own_row2 hOA.out (by omega)
      obtain ⟨gB, bcap, eB, hgB, hB1, hB2, hRB⟩ := own_row2 hOB.out (by omega)
      obtain ⟨rfl, rfl⟩ : ao = some ⟨gA, 0, none⟩ ∧ ac = acap := by cases eA; exact ⟨rfl, rfl⟩
      obtain ⟨rfl, rfl⟩ : bo = some ⟨gB, 0, none⟩ ∧ bc = bcap := by cases eB; exact ⟨rfl, rfl⟩
      rw [hAn] at hA1
      rw [hBm] at hB1
      have HRA := Lib.hid hRA
      have HRB := Lib.hid hRB
      have HAN := Lib.hid hAn
      have HBN := Lib.hid hBm
      have hgl := hL.out.hd.lt
      have hgC := hL.out.hC
      have hgAl := hRA.lt
      have hgBl := hRB.lt
      clear hOA hOB hSep eA eB hRA hRB hlt hAl hBl HTT
      rw [hAn, hBm]
      clear hAn hBm
      go_upto_region 18 with fail
      have HL1 := Lib.hid ((hL.out.alloc (.cells #[.slice (some ⟨gA, 0, none⟩) n ac, .slice (some ⟨gB, 0, none⟩) m bc] 26)).alloc (.cells #[.int .i64 0, .slice (some ⟨wr.heap.size, 0, none⟩) 2 2] 25))
      have HRA1 := Lib.hid ((HRA.out.alloc (.cells #[.slice (some ⟨gA, 0, none⟩) n ac, .slice (some ⟨gB, 0, none⟩) m bc] 26)).alloc (.cells #[.int .i64 0, .slice (some ⟨wr.heap.size, 0, none⟩) 2 2] 25))
      have HRB1 := Lib.hid ((HRB.out.alloc (.cells #[.slice (some ⟨gA, 0, none⟩) n ac, .slice (some ⟨gB, 0, none⟩) m bc] 26)).alloc (.cells #[.int .i64 0, .slice (some ⟨wr.heap.size, 0, none⟩) 2 2] 25))
      have HS1 := Lib.hid ((Arr.new wr [.slice (some ⟨gA, 0, none⟩) n ac, .slice (some ⟨gB, 0, none⟩) m bc] 26).alloc (.cells #[.int .i64 0, .slice (some ⟨wr.heap.size, 0, none⟩) 2 2] 25))
      have hX1 := Arr.new (wr.alloc (.cells #[.slice (some ⟨gA, 0, none⟩) n ac, .slice (some ⟨gB, 0, none⟩) m bc] 26)) [.int .i64 0, .slice (some ⟨wr.heap.size, 0, none⟩) 2 2] 25
      have s1 : (wr.alloc (.cells #[.slice (some ⟨gA, 0, none⟩) n ac, .slice (some ⟨gB, 0, none⟩) m bc] 26)).heap.size = wr.heap.size + 1 := by simp
      rw [s1] at hX1
      have HX1 := Lib.hid hX1
      obtain ⟨S0, hS0⟩ : ∃ S0, S0 = wr.heap.size := ⟨_, rfl⟩
      rw [← hS0] at HL1 HRA1 HRB1 HS1 HX1 hgAl hgBl hgl
      (try rw [← hS0])
      clear hX1 s1 hL HRA HRB hS0
      generalize hW : (World.alloc wr _).alloc _ = W1 at HL1 HRA1 HRB1 HS1 HX1 ⊢
      clear hW
      obtain ⟨C2, hC2⟩ : ∃ C2, C2 = W1.heap.size := ⟨_, rfl⟩
      have HC2 := Lib.hid hC2
      have hS0C : S0 + 1 < C2 := by rw [hC2]; exact HX1.out.lt
      have hd1 := HL1.out.hd
      clear hC2
      go_upto_region 20 with fail
      rw [HTI.out]
      go_loopw [13, 14, 15, 73] (fun s1 s2 s3 i wx => ∃ (j : Nat) (X L R : List Int) (o1 o2 o3 : Option Addr) (c1 c2 c3 : Nat), j ≤ T ∧ i = .int .i64 j ∧ s1 = .slice o1 X.length c1 ∧ s2 = .slice o2 L.length c2 ∧ s3 = .slice o3 R.length c3 ∧ X.length ≤ j ∧ L.length ≤ j ∧ R.length ≤ j ∧ Hid (∀ k, inS L k = (decide (k < n) && inS X k)) ∧ Hid (∀ k, inS R k = inS X (n + k)) ∧ Hid (Rows3 C2 wx (.slice o1 X.length c1) (.slice o2 L.length c2) (.slice o3 R.length c3) X L R) ∧ Hid (W1.grownBy wx (some g)) ∧ Hid (DiceAt g wx g)) (fun _ _ _ i _ => T - (intOf i).toNat)
      case atStart => exact ⟨0, [], [], [], none, none, none, 0, 0, 0, Nat.zero_le _, rfl, rfl, rfl, rfl, by simp, by simp, by simp, Lib.hid (fun k => by simp [inS]), Lib.hid (fun k => rfl), Lib.hid ⟨World.ownsRow_nil _ _ _ _, World.ownsRow_nil _ _ _ _, World.ownsRow_nil _ _ _ _, .inl rfl, .inl rfl, .inl rfl⟩, Lib.hid ⟨rfl, rfl, rfl, Nat.le_refl _, fun _ _ _ => rfl⟩, Lib.hid hd1⟩
      case round =>
        clear hd1
        obtain ⟨j, X, L, R, o1, o2, o3, c1, c2, c3, hj, rfl, rfl, rfl, rfl, hX8, hL8, hR8, hLs, hRs, hR3, hG, hD⟩ := hrel
        by_cases hlt2 : j < T
        · have hgC2 : g < C2 := by omega
          have hge : C2 ≤ wr.heap.size := by rw [HC2.out]; exact hG.out.size
          go_upto_region 23 with (go_at_call 11; (with_reducible refine (N2.out _ hD.out).mono ?_); rintro e w5 ⟨⟨k, hk, rfl⟩, hg5, hd5⟩; have hR5 := Lib.hid (hR3.out.dice hg5 hgC2); have hG5 := Lib.hid (gtrans hG.out hg5); have hD5 := Lib.hid hd5; have hge5 : C2 ≤ w5.heap.size := Nat.le_trans hge hg5.size; clear hg5 hd5 hR3 hG hD hge)
          · exact ⟨⟨j + 1, X, L, R, o1, o2, o3, c1, c2, c3, by omega, by go_num, rfl, rfl, rfl, by omega, by omega, by omega, hLs, hRs, hR5, hG5, hD5⟩, by simp [intOf]; omega⟩
          · have hC2W : W1.heap.size ≤ C2 := by rw [HC2.out]; exact Nat.le_refl _
            have hki : (k : Int) < 2 := by omega
            have e6 : (X ++ [(j : Int)]).length = X.length + 1 := by simp
            have hR5a := hR5.out.alloc (.cells #[.int .i64 (j : Nat)] 3)
            have hcap79 : C2 ≤ (w5.alloc (.cells #[.int .i64 (j : Nat)] 3)).heap.size := by simp; omega
            go_upto_region 24 with (at_builtin; go_loud (refine wpList_append_own_at _ rfl (.tmp 79) (.tmp 81) 22 rfl C2 3 j0 (.int .i64 0) 1 8 Try.underlying22 HJ.out.1 HJ.out.2.1 HJ.out.2.2.1 HJ.out.2.2.2 rfl (by decide) _ X.length _ rfl hR5a.o1 ⟨w5.heap.size, 0, none⟩ 1 1 [.int .i64 (j : Nat)] rfl rfl (cells_new _ _ _ _ rfl) (by intro u hu; simp at hu; subst hu; rfl) (by unfold maxLen; omega) (by omega) hcap79 ?_); intro v79 w79 hO79 hg79 _ hat79)
            obtain ⟨a79, c79, rfl, -, -⟩ := own_form2 hO79
            have hR6 := Lib.hid (hR5a.app hO79 hg79 hat79)
            have hG6 := Lib.hid (grown_own (gtrans hG5.out (galloc w5 (.cells #[.int .i64 (j : Nat)] 3) (some g))) hR5a.o1 hg79 hC2W)
            have hD6 := Lib.hid ((hD5.out.go ((Below.refl w5.heap.size w5).alloc (Nat.le_refl _) (.cells #[.int .i64 (j : Nat)] 3))).same (fun i hi => own_kept hR5a.o1 hg79 i (by omega) (by simp; omega)))
            have hge6 : C2 ≤ w79.heap.size := by have := hg79.size; omega
            have hsX : Hid (∀ k, inS (X ++ [(j : Int)]) k = (inS X k || (j : Int) == (k : Int))) := Lib.hid (fun k => inS_snoc _ _ _)
            have hX9 : (X ++ [(j : Int)]).length ≤ j + 1 := by omega
            rw [← e6] at hR6
            rw [← e6]
            clear hO79 hg79 hat79 hR5a hR5 hG5 hD5 e6 hge5 hcap79 hX8
            generalize X ++ [(j : Int)] = X2 at hR6 hsX hX9 ⊢
            by_cases hjn : j < n
            · have hjni : (j : Int) < (n : Int) := by omega
              have hR6s := Lib.hid hR6.out.swap
              have e7 : (L ++ [(j : Int)]).length = L.length + 1 := by simp
              have hR6sa := hR6s.out.alloc (.cells #[.int .i64 (j : Nat)] 3)
              have hcap86 : C2 ≤ (w79.alloc (.cells #[.int .i64 (j : Nat)] 3)).heap.size := by simp; omega
              go_upto_region 27 with (at_builtin; go_loud (refine wpList_append_own_at _ rfl (.tmp 86) (.tmp 88) 22 rfl C2 3 j0 (.int .i64 0) 1 8 Try.underlying22 HJ.out.1 HJ.out.2.1 HJ.out.2.2.1 HJ.out.2.2.2 rfl (by decide) _ L.length _ rfl hR6sa.o1 ⟨w79.heap.size, 0, none⟩ 1 1 [.int .i64 (j : Nat)] rfl rfl (cells_new _ _ _ _ rfl) (by intro u hu; simp at hu; subst hu; rfl) (by unfold maxLen; omega) (by omega) hcap86 ?_); intro v86 w86 hO86 hg86 _ hat86)
              obtain ⟨a86, c86, rfl, -, -⟩ := own_form2 hO86
              have hR7 := Lib.hid (hR6sa.app hO86 hg86 hat86).swap
              have hG7 := Lib.hid (grown_own (gtrans hG6.out (galloc w79 (.cells #[.int .i64 (j : Nat)] 3) (some g))) hR6sa.o1 hg86 hC2W)
              have hD7 := Lib.hid ((hD6.out.go ((Below.refl w79.heap.size w79).alloc (Nat.le_refl _) (.cells #[.int .i64 (j : Nat)] 3))).same (fun i hi => own_kept hR6sa.o1 hg86 i (by omega) (by simp; omega)))
              have hL9 : (L ++ [(j : Int)]).length ≤ j + 1 := by omega
              have hLs2 : Hid (∀ k, inS (L ++ [(j : Int)]) k = (decide (k < n) && inS X2 k)) := Lib.hid (fun k => by
                rw [inS_snoc, hLs.out, hsX.out]
                by_cases h : k < n
                · rw [decide_eq_true h, Bool.true_and, Bool.true_and]
                · rw [decide_eq_false h, Bool.false_and, Bool.false_and, Bool.false_or, beq_eq_false_iff_ne]; omega)
              have hRs2 : Hid (∀ k, inS R k = inS X2 (n + k)) := Lib.hid (fun k => by
                rw [hRs.out, hsX.out, show ((j : Int) == ((n + k : Nat) : Int)) = false by rw [beq_eq_false_iff_ne]; omega, Bool.or_false])
              rw [← e7] at hR7
              rw [← e7]
              clear hO86 hg86 hat86 hR6sa hR6s hR6 hG6 hD6 e7 hge6 hLs hRs hsX hL8
              generalize L ++ [(j : Int)] = L2 at hR7 hLs2 hL9 ⊢
              go_wp2
              exact ⟨⟨j + 1, X2, L2, R, a79, a86, o3, c79, c86, c3, by omega, by go_num, rfl, rfl, rfl, hX9, hL9, by omega, hLs2, hRs2, hR7, hG7, hD7⟩, by simp [intOf]; omega⟩
            · have hjni : ¬ (j : Int) < (n : Int) := by omega
              obtain ⟨d, hd⟩ : ∃ d : Nat, d = j - n := ⟨_, rfl⟩
              have hdi : (j : Int) - (n : Int) = (d : Int) := by omega
              have hd8 : (d : Int) ≤ 8 := by omega
              have HDd := Lib.hid hd
              clear hd
              have hR6t := Lib.hid hR6.out.swap3
              have e7 : (R ++ [(d : Int)]).length = R.length + 1 := by simp
              have hR6ta := hR6t.out.alloc (.cells #[.int .i64 (d : Nat)] 3)
              have hcap90 : C2 ≤ (w79.alloc (.cells #[.int .i64 (d : Nat)] 3)).heap.size := by simp; omega
              go_upto_region 27 with (at_builtin; go_loud (refine wpList_append_own_at _ rfl (.tmp 90) (.tmp 94) 22 rfl C2 3 j0 (.int .i64 0) 1 8 Try.underlying22 HJ.out.1 HJ.out.2.1 HJ.out.2.2.1 HJ.out.2.2.2 rfl (by decide) _ R.length _ rfl hR6ta.o1 ⟨w79.heap.size, 0, none⟩ 1 1 [.int .i64 (d : Nat)] rfl rfl (cells_new _ _ _ _ rfl) (by intro u hu; simp at hu; subst hu; rfl) (by unfold maxLen; omega) (by omega) hcap90 ?_); intro v90 w90 hO90 hg90 _ hat90)
              obtain ⟨a90, c90, rfl, -, -⟩ := own_form2 hO90
              have hR7 := Lib.hid (hR6ta.app hO90 hg90 hat90).swap3
              have hG7 := Lib.hid (grown_own (gtrans hG6.out (galloc w79 (.cells #[.int .i64 (d : Nat)] 3) (some g))) hR6ta.o1 hg90 hC2W)
              have hD7 := Lib.hid ((hD6.out.go ((Below.refl w79.heap.size w79).alloc (Nat.le_refl _) (.cells #[.int .i64 (d : Nat)] 3))).same (fun i hi => own_kept hR6ta.o1 hg90 i (by omega) (by simp; omega)))
              have hR9 : (R ++ [(d : Int)]).length ≤ j + 1 := by omega
              have hLs2 : Hid (∀ k, inS L k = (decide (k < n) && inS X2 k)) := Lib.hid (fun k => by
                rw [hLs.out, hsX.out]
                by_cases h : k < n
                · rw [show ((j : Int) == (k : Int)) = false by rw [beq_eq_false_iff_ne]; omega, Bool.or_false]
                · rw [decide_eq_false h, Bool.false_and, Bool.false_and])
              have hRs2 : Hid (∀ k, inS (R ++ [(d : Int)]) k = inS X2 (n + k)) := Lib.hid (fun k => by
                rw [inS_snoc, hRs.out, hsX.out]
                congr 1
                rw [Bool.eq_iff_iff, beq_iff_eq, beq_iff_eq]
                have := HDd.out
                omega)
              rw [← e7] at hR7
              rw [← e7]
              clear hO90 hg90 hat90 hR6ta hR6t hR6 hG6 hD6 e7 hge6 hLs hRs hsX hR8
              generalize R ++ [(d : Int)] = R2 at hR7 hRs2 hR9 ⊢
              go_wp2
              exact ⟨⟨j + 1, X2, L, R2, a79, o2, a90, c79, c2, c90, by omega, by go_num, rfl, rfl, rfl, hX9, by omega, hR9, hLs2, hRs2, hR7, hG7, hD7⟩, by simp [intOf]; omega⟩
        · obtain rfl : T = j := by omega
          have hR3o := hR3.out
          have HIX := Lib.hid (ints_of_own hR3o.o1)
          have HIL := Lib.hid (ints_of_own hR3o.o2)
          have HIR := Lib.hid (ints_of_own hR3o.o3)
          have HRA2 := Lib.hid (HRA1.out.kept hG.out (by intro e; injection e; omega))
          have HRB2 := Lib.hid (HRB1.out.kept hG.out (by intro e; injection e; omega))
          have HS2 := Lib.hid (HS1.out.kept hG.out (by intro e; injection e; omega))
          have HX2 := Lib.hid (HX1.out.kept hG.out (by intro e; injection e; omega))
          have HBW := Lib.hid (gbelow HL1.out.hb hG.out (by have := HL1.out.hd.lt; omega) (Nat.le_refl _))
          have hgw : g < wr.heap.size := hD.out.lt
          have hwa := hA.out.1
          have hwb := hB.out.1
          have HAN2 := HAN.out
          have HBN2 := HBN.out
          have hA0 : A[0]? = some (1, 1) := hA.out.2 (fun e => by rw [e] at HAN2; simp at HAN2; omega)
          have hB0 : B[0]? = some (1, 1) := hB.out.2 (fun e => by rw [e] at HBN2; simp at HBN2; omega)
          have hva := valid_one (l := A) (by omega) (by omega) hwa 0 hA0
          have hvb := valid_one (l := B) (by omega) (by omega) hwb 0 hB0
          have hvab := valid_two (a := A) (b := B) (by omega) (by omega) (by omega) hwa hwb 0 0 hA0 hB0
          rw [HAN2] at hva
          rw [HBN2] at hvb
          rw [HAN2, HBN2] at hvab
          obtain ⟨L1, hL1⟩ := least_is hva
          obtain ⟨L2, hL2⟩ := least_is hvb
          have hL12 : IsLeast (n + m) (enB 0 [A, B]) (L1 + L2) := by
            have := least_two (a := A) (b := B) (by rw [HAN2]; exact hL1) (by rw [HBN2]; exact hL2)
            rwa [HAN2, HBN2] at this
          have e1 := leastI_of (keys := (n : Int)) hva (by simpa using hL1)
          have e2 := leastI_of (keys := (m : Int)) hvb (by simpa using hL2)
          have e12 := leastI_of (keys := ((n + m : Nat) : Int)) hvab (by rw [Int.toNat_natCast]; exact hL12)
          have hl1 : L1 ≤ n := (least_bounds n1 hva hL1).2
          have hl2 : L2 ≤ m := (least_bounds m1 hvb hL2).2
          have hen : enB 0 [A, B] (inS X) = (enB 0 [A] (inS L) && enB 0 [B] (inS R)) := by
            rw [enB_two]
            have x1 : enB 0 [A] (inS X) = enB 0 [A] (inS L) := by
              unfold enB
              rw [if_neg (by simp), if_neg (by simp)]
              refine enL_ext [A] 0 (fun i _ hi => ?_)
              unfold lenL lenL at hi
              rw [hLs.out, decide_eq_true (by omega), Bool.true_and]
            have x2 : enB 0 [B] (fun i => inS X (A.length + i)) = enB 0 [B] (inS R) := by
              congr 1
              funext i
              rw [hRs.out, HAN2]
            rw [x1, x2]
          have HTT2 := HT.out
          rw [← HTT2] at hvab e12
          have FR3 := Lib.hid ((frss_two (A := C0) (s := S0) (g1 := gA) (g2 := gB) (l := A) (r := B) (cap := ac) (cap2 := bc) (w := wr) (by rw [HAN.out, HBN.out]; exact HS2.out) HRA2.out HRB2.out (by omega) (by omega) (by omega) (by rw [HAN.out]; exact hA1) hA2 (by rw [HBN.out]; exact hB1) hB2 hA.out.1 hB.out.1).now)
          obtain ⟨q, hq⟩ : ∃ q, q = enB 0 [A] (inS L) := ⟨_, rfl⟩
          obtain ⟨r, hr⟩ : ∃ r, r = enB 0 [B] (inS R) := ⟨_, rfl⟩
          rw [← hq, ← hr] at hen
          have EV := Lib.hid (And.intro hva (And.intro hvb hvab))
          have EN := Lib.hid (And.intro hen (And.intro hq hr))
          have EL := Lib.hid (And.intro e1 (And.intro e2 e12))
          have hL8i : (L1 : Int) ≤ 4 := by omega
          have hL8j : (L2 : Int) ≤ 4 := by omega
          have hXl : X.length ≤ 8 := by omega
          have hLl : L.length ≤ 8 := by omega
          have hRl : R.length ≤ 8 := by omega
          clear hR3o hwa hwb HAN2 HBN2 hA0 hB0 hva hvb hvab hL1 hL2 hL12 e1 e2 e12 hen hq hr HTT2 hLs hRs hlt2 hl1 hl2
          go_upto_region 29 with fail
          have a1 := (((Arr.new wr [.slice (some ⟨gA, 0, none⟩) n ac] 26).alloc (.cells #[.slice (some ⟨gB, 0, none⟩) m bc] 26)).alloc (.cells #[.int .i64 0, .slice (some ⟨wr.heap.size, 0, none⟩) 1 1] 25)).alloc (.cells #[.int .i64 0, .slice (some ⟨wr.heap.size + 1, 0, none⟩) 1 1] 25)
          have a2 := ((Arr.new (wr.alloc (.cells #[.slice (some ⟨gA, 0, none⟩) n ac] 26)) [.slice (some ⟨gB, 0, none⟩) m bc] 26).alloc (.cells #[.int .i64 0, .slice (some ⟨wr.heap.size, 0, none⟩) 1 1] 25)).alloc (.cells #[.int .i64 0, .slice (some ⟨wr.heap.size + 1, 0, none⟩) 1 1] 25)
          have a3 := (Arr.new ((wr.alloc (.cells #[.slice (some ⟨gA, 0, none⟩) n ac] 26)).alloc (.cells #[.slice (some ⟨gB, 0, none⟩) m bc] 26)) [.int .i64 0, .slice (some ⟨wr.heap.size, 0, none⟩) 1 1] 25).alloc (.cells #[.int .i64 0, .slice (some ⟨wr.heap.size + 1, 0, none⟩) 1 1] 25)
          have a4 := Arr.new (((wr.alloc (.cells #[.slice (some ⟨gA, 0, none⟩) n ac] 26)).alloc (.cells #[.slice (some ⟨gB, 0, none⟩) m bc] 26)).alloc (.cells #[.int .i64 0, .slice (some ⟨wr.heap.size, 0, none⟩) 1 1] 25)) [.int .i64 0, .slice (some ⟨wr.heap.size + 1, 0, none⟩) 1 1] 25
          have hb4 := ((((Below.refl wr.heap.size wr).alloc (o := .cells #[.slice (some ⟨gA, 0, none⟩) n ac] 26) (Nat.le_refl _)).alloc (o := .cells #[.slice (some ⟨gB, 0, none⟩) m bc] 26) (by simp)).alloc (o := .cells #[.int .i64 0, .slice (some ⟨wr.heap.size, 0, none⟩) 1 1] 25) (by simp; omega)).alloc (o := .cells #[.int .i64 0, .slice (some ⟨wr.heap.size + 1, 0, none⟩) 1 1] 25) (by simp; omega)
          have t1 : (wr.alloc (.cells #[.slice (some ⟨gA, 0, none⟩) n ac] 26)).heap.size = wr.heap.size + 1 := by simp
          have t2 : ((wr.alloc (.cells #[.slice (some ⟨gA, 0, none⟩) n ac] 26)).alloc (.cells #[.slice (some ⟨gB, 0, none⟩) m bc] 26)).heap.size = wr.heap.size + 1 + 1 := by simp
          have t3 : (((wr.alloc (.cells #[.slice (some ⟨gA, 0, none⟩) n ac] 26)).alloc (.cells #[.slice (some ⟨gB, 0, none⟩) m bc] 26)).alloc (.cells #[.int .i64 0, .slice (some ⟨wr.heap.size, 0, none⟩) 1 1] 25)).heap.size = wr.heap.size + 1 + 1 + 1 := by simp
          rw [t1] at a2
          rw [t2] at a3
          rw [t3] at a4
          clear t1 t2 t3
          generalize hW28 : (((World.alloc wr _).alloc _).alloc _).alloc _ = wq at a1 a2 a3 a4 hb4 ⊢
          clear hW28
          have HHb := Lib.hid hb4
          obtain ⟨D0, hD0⟩ : ∃ D, D = wr.heap.size := ⟨_, rfl⟩
          have hwD := a1.lt
          have FA := Lib.hid ((frss_one (A := C0) (g1 := gA) (l := A) (cap := ac) (w := wq) (by rw [HAN.out]; exact a1) (HRA2.out.below hb4 HRA2.out.lt) (by have := HL1.out.lt; have := hG.out.size; omega) (by omega) (by rw [HAN.out]; exact hA1) hA2 hA.out.1).now)
          have FB := Lib.hid ((frss_one (A := C0) (g1 := gB) (l := B) (cap := bc) (w := wq) (by rw [HBN.out]; exact a2) (HRB2.out.below hb4 HRB2.out.lt) (by have := HL1.out.lt; have := hG.out.size; omega) (by omega) (by rw [HBN.out]; exact hB1) hB2 hB.out.1).now)
          have FAB := Lib.hid ((FR3.out.below hb4 (Nat.le_refl _)).mono hb4.size)
          have IX := Lib.hid ((HIX.out.below hb4 (Nat.le_refl _)).grow hb4.size)
          have IL := Lib.hid ((HIL.out.below hb4 (Nat.le_refl _)).grow hb4.size)
          have IR := Lib.hid ((HIR.out.below hb4 (Nat.le_refl _)).grow hb4.size)
          have X5 := Lib.hid (HX2.out.below hb4 HX2.out.lt)
          have A3 := Lib.hid a3
          have A4 := Lib.hid a4
          have HBQ := Lib.hid (HBW.out.trans (hb4.mono (by omega)))
          clear a1 a2 a3 a4 hb4
          rw [← hD0] at A3 A4 FA FB
          rw [← hD0]
          clear hD0 hwD
          have HBd := Lib.hid HBQ.out.drew
          have X5 := Lib.hid X5.out.drew
          have A3 := Lib.hid A3.out.drew
          have A4 := Lib.hid A4.out.drew
          have FA := Lib.hid (FA.out.below (Below.refl wq.heap.size wq).drew (Nat.le_refl _))
          have FB := Lib.hid (FB.out.below (Below.refl wq.heap.size wq).drew (Nat.le_refl _))
          have FAB := Lib.hid (FAB.out.below (Below.refl wq.heap.size wq).drew (Nat.le_refl _))
          have IX := Lib.hid (IX.out.below (Below.refl wq.heap.size wq).drew (Nat.le_refl _))
          have IL := Lib.hid (IL.out.below (Below.refl wq.heap.size wq).drew (Nat.le_refl _))
          have IR := Lib.hid (IR.out.below (Below.refl wq.heap.size wq).drew (Nat.le_refl _))
          have sN : Hid (lenL [A, B] ≤ 1000000 ∧ lenL [A] ≤ 1000000 ∧ lenL [B] ≤ 1000000) := Lib.hid (by
            have h1 := HAN.out
            have h2 := HBN.out
            unfold lenL lenL lenL
            omega)
          have VB := Lib.hid (fun (wx : World) (h : Below wq.drew.heap.size wq.drew wx) => tvalid_any wq.heap.size 0 _ [A, B] T wx (FAB.out.below h (Nat.le_refl _)) h.size (by simp) sN.out.1)
          have E12 := Lib.hid (fun (wx : World) (h : Below wq.drew.heap.size wq.drew wx) => tenough_any wq.heap.size 0 _ _ [A, B] X T wx (FAB.out.below h (Nat.le_refl _)) (IX.out.below h (Nat.le_refl _)) h.size EV.out.2.2 (by simp) (by omega))
          have E1 := Lib.hid (fun (wx : World) (h : Below wq.drew.heap.size wq.drew wx) => tenough_any wq.heap.size 0 _ _ [A] L n wx (FA.out.below h (Nat.le_refl _)) (IL.out.below h (Nat.le_refl _)) h.size EV.out.1 (by simp) (by omega))
          have E2 := Lib.hid (fun (wx : World) (h : Below wq.drew.heap.size wq.drew wx) => tenough_any wq.heap.size 0 _ _ [B] R m wx (FB.out.below h (Nat.le_refl _)) (IR.out.below h (Nat.le_refl _)) h.size EV.out.2.1 (by simp) (by omega))
          have L12 := Lib.hid (fun (wx : World) (h : Below wq.drew.heap.size wq.drew wx) => tleast_any wq.heap.size 0 _ [A, B] T wx (FAB.out.below h (Nat.le_refl _)) h.size (by simp) sN.out.1)
          have LA := Lib.hid (fun (wx : World) (h : Below wq.drew.heap.size wq.drew wx) => tleast_any wq.heap.size 0 _ [A] n wx (FA.out.below h (Nat.le_refl _)) h.size (by simp) sN.out.2.1)
          have LB := Lib.hid (fun (wx : World) (h : Below wq.drew.heap.size wq.drew wx) => tleast_any wq.heap.size 0 _ [B] m wx (FB.out.below h (Nat.le_refl _)) h.size (by simp) sN.out.2.2)
          rw [EV.out.2.2] at VB
          rw [EN.out.1] at E12
          rw [← EN.out.2.1] at E1
          rw [← EN.out.2.2] at E2
          rw [EL.out.2.2] at L12
          rw [EL.out.1] at LA
          rw [EL.out.2.1] at LB
          have SS := Lib.hid (fun (wx : World) (h : Below wq.drew.heap.size wq.drew wx) => (⟨(X5.out.below h X5.out.lt).cellAt rfl, (X5.out.below h X5.out.lt).cellAt rfl, (A3.out.below h A3.out.lt).cellAt rfl, (A3.out.below h A3.out.lt).cellAt rfl, (A4.out.below h A4.out.lt).cellAt rfl, (A4.out.below h A4.out.lt).cellAt rfl⟩ : wx.cell? ⟨S0 + 1, 0, none⟩ = some (.int .i64 0) ∧ wx.cell? ⟨S0 + 1, 1, none⟩ = some (.slice (some ⟨S0, 0, none⟩) 2 2) ∧ wx.cell? ⟨D0 + 1 + 1, 0, none⟩ = some (.int .i64 0) ∧ wx.cell? ⟨D0 + 1 + 1, 1, none⟩ = some (.slice (some ⟨D0, 0, none⟩) 1 1) ∧ wx.cell? ⟨D0 + 1 + 1 + 1, 0, none⟩ = some (.int .i64 0) ∧ wx.cell? ⟨D0 + 1 + 1 + 1, 1, none⟩ = some (.slice (some ⟨D0 + 1, 0, none⟩) 1 1)))
          cases q with
          | true =>
            rw [Bool.true_and] at E12
            refine wp_region_plan (fun wx => wx.cell? ⟨S0 + 1, 0, none⟩ = some (.int .i64 0) ∧ wx.cell? ⟨S0 + 1, 1, none⟩ = some (.slice (some ⟨S0, 0, none⟩) 2 2) ∧ wx.cell? ⟨D0 + 1 + 1, 0, none⟩ = some (.int .i64 0) ∧ wx.cell? ⟨D0 + 1 + 1, 1, none⟩ = some (.slice (some ⟨D0, 0, none⟩) 1 1) ∧ wx.cell? ⟨D0 + 1 + 1 + 1, 0, none⟩ = some (.int .i64 0) ∧ wx.cell? ⟨D0 + 1 + 1 + 1, 1, none⟩ = some (.slice (some ⟨D0 + 1, 0, none⟩) 1 1)) [0, 6, 9, 13, 20, 25, 28] (.take 0 (.take 1 (.take 2 (.take 3 (.ask 4 true (.take 5 (.take 6 (.take 7 (.take 9 (.take 10 (.ask 8 true (.ask 11 true (.take 12 (.take 13 (.take 14 (.ask 15 true (.take 16 (.take 17 (.take 18 (.take 19 (.take 20 (.take 21 (.take 22 (.take 23 (.take 25 (.take 26 (.take 28 (.take 29 (.ask 24 true (.ask 27 true (.ask 30 false (.take 31 (.take 32 (.take 33 (.take 34 (.ask 35 false (.take 36 (.take 37 .stop)) .stop))))) .stop) .stop) .stop))))))))))))) .stop)))) .stop) .stop)))))) .stop))))) (by kernel_rfl) (by kernel_rfl) (fun _ d _ _ _ h => by cases d <;> exact h) (SS.out _ (Below.refl _ _)) ?_
            have B0 := Lib.hid (Below.refl wq.drew.heap.size wq.drew)
            clear X5 A3 A4 FA FB FAB IX IL IR HIX HIL HIR HRA1 HRB1 HRA2 HRB2 HS1 HX1 HS2 HX2 FR3 HBQ HBW HL1 HHb
            generalize wq.drew = wd at HBd VB E12 E1 E2 L12 LA LB SS B0 ⊢
            refine take_held _ ?_ rfl rfl (by decide) ?_ (fun K hK => ?_); rotate_left; (intro w0 hw0; obtain ⟨q1, q2, q3, q4, q5, q6⟩ := hw0; go_simp; (try rfl)); (go_simp; refine hK _ ?_; clear hK K)
            refine take_any _ ?_ rfl rfl ?_ (fun K hK => ?_); rotate_left; (intro w0; go_simp; (try rfl)); (go_simp; refine hK _ ?_; clear hK K)
            refine take_any _ ?_ rfl rfl ?_ (fun K hK => ?_); rotate_left; (intro w0; go_simp; (try rfl)); (go_simp; refine hK _ ?_; clear hK K)
            refine take_any _ ?_ rfl rfl ?_ (fun K hK => ?_); rotate_left; (intro w0; go_simp; (try rfl)); (go_simp; refine hK _ ?_; clear hK K)
            rw [HTI.out]
            refine ask_step _ rfl trivial ?_; go_wp2_with (go_at_call 15; (with_reducible refine (VB.out _ B0.out).mono ?_); rintro e u1 ⟨rfl, hu1⟩; have B1 := Lib.hid (B0.out.trans (hu1.mono B0.out.size)); clear hu1)
            refine Seg.mk ⟨SS.out _ B1.out, ?_⟩
            refine take_any _ ?_ rfl rfl ?_ (fun K hK => ?_); rotate_left; (intro w0; go_simp; (try rfl)); (go_simp; refine hK _ ?_; clear hK K)
            refine take_held _ ?_ rfl rfl (by decide) ?_ (fun K hK => ?_); rotate_left; (intro w0 hw0; obtain ⟨q1, q2, q3, q4, q5, q6⟩ := hw0; go_simp; (try rfl)); (go_simp; refine hK _ ?_; clear hK K)
            refine take_any _ ?_ rfl rfl ?_ (fun K hK => ?_); rotate_left; (intro w0; go_simp; (try rfl)); (go_simp; refine hK _ ?_; clear hK K)
            refine take_held _ ?_ rfl rfl (by decide) ?_ (fun K hK => ?_); rotate_left; (intro w0 hw0; obtain ⟨q1, q2, q3, q4, q5, q6⟩ := hw0; go_simp; (try rfl)); (go_simp; refine hK _ ?_; clear hK K)
            refine take_any _ ?_ rfl rfl ?_ (fun K hK => ?_); rotate_left; (intro w0; go_simp; (try rfl)); (go_simp; refine hK _ ?_; clear hK K)
            refine ask_step _ rfl trivial ?_; go_wp2_with (go_at_call 21; (with_reducible refine (E12.out _ B1.out).mono ?_); rintro e u2 ⟨rfl, hu2⟩; have B2 := Lib.hid (B1.out.trans (hu2.mono B1.out.size)); clear hu2)
            refine Seg.mk ⟨SS.out _ B2.out, ?_⟩
            refine ask_step _ rfl trivial ?_; go_wp2_with (go_at_call 21; (with_reducible refine (E1.out _ B2.out).mono ?_); rintro e u3 ⟨rfl, hu3⟩; have B3 := Lib.hid (B2.out.trans (hu3.mono B2.out.size)); clear hu3)
            refine Seg.mk ⟨SS.out _ B3.out, ?_⟩
            refine take_any _ ?_ rfl rfl ?_ (fun K hK => ?_); rotate_left; (intro w0; go_simp; (try rfl)); (go_simp; refine hK _ ?_; clear hK K)
            refine take_held _ ?_ rfl rfl (by decide) ?_ (fun K hK => ?_); rotate_left; (intro w0 hw0; obtain ⟨q1, q2, q3, q4, q5, q6⟩ := hw0; go_simp; (try rfl)); (go_simp; refine hK _ ?_; clear hK K)
            refine take_any _ ?_ rfl rfl ?_ (fun K hK => ?_); rotate_left; (intro w0; go_simp; (try rfl)); (go_simp; refine hK _ ?_; clear hK K)
            refine ask_step _ rfl trivial ?_; go_wp2_with (go_at_call 21; (with_reducible refine (E2.out _ B3.out).mono ?_); rintro e u4 ⟨rfl, hu4⟩; have B4 := Lib.hid (B3.out.trans (hu4.mono B3.out.size)); clear hu4)
            refine Seg.mk ⟨SS.out _ B4.out, ?_⟩
            have qy := same_boolY r
            refine take_any _ ?_ rfl rfl ?_ (fun K hK => ?_); rotate_left; (intro w0; go_simp; (try rfl)); (go_simp; refine hK _ ?_; clear hK K)
            refine take_any _ ?_ rfl rfl ?_ (fun K hK => ?_); rotate_left; (intro w0; go_simp; (try rfl)); (go_simp; refine hK _ ?_; clear hK K)
            refine take_any _ ?_ rfl rfl ?_ (fun K hK => ?_); rotate_left; (intro w0; go_simp; (try rfl)); (go_simp; refine hK _ ?_; clear hK K)
            refine take_any _ ?_ rfl rfl ?_ (fun K hK => ?_); rotate_left; (intro w0; go_simp; (try rfl)); (go_simp; refine hK _ ?_; clear hK K)
            refine take_held _ ?_ rfl rfl (by decide) ?_ (fun K hK => ?_); rotate_left; (intro w0 hw0; obtain ⟨q1, q2, q3, q4, q5, q6⟩ := hw0; go_simp; (try rfl)); (go_simp; refine hK _ ?_; clear hK K)
            refine take_any _ ?_ rfl rfl ?_ (fun K hK => ?_); rotate_left; (intro w0; go_simp; (try rfl)); (go_simp; refine hK _ ?_; clear hK K)
            refine take_any _ ?_ rfl rfl ?_ (fun K hK => ?_); rotate_left; (intro w0; go_simp; (try rfl)); (go_simp; refine hK _ ?_; clear hK K)
            refine take_any _ ?_ rfl rfl ?_ (fun K hK => ?_); rotate_left; (intro w0; go_simp; (try rfl)); (go_simp; refine hK _ ?_; clear hK K)
            rw [HTI.out]
            refine take_held _ ?_ rfl rfl (by decide) ?_ (fun K hK => ?_); rotate_left; (intro w0 hw0; obtain ⟨q1, q2, q3, q4, q5, q6⟩ := hw0; go_simp; (try rfl)); (go_simp; refine hK _ ?_; clear hK K)
            refine take_any _ ?_ rfl rfl ?_ (fun K hK => ?_); rotate_left; (intro w0; go_simp; (try rfl)); (go_simp; refine hK _ ?_; clear hK K)
            refine take_held _ ?_ rfl rfl (by decide) ?_ (fun K hK => ?_); rotate_left; (intro w0 hw0; obtain ⟨q1, q2, q3, q4, q5, q6⟩ := hw0; go_simp; (try rfl)); (go_simp; refine hK _ ?_; clear hK K)
            refine take_any _ ?_ rfl rfl ?_ (fun K hK => ?_); rotate_left; (intro w0; go_simp; (try rfl)); (go_simp; refine hK _ ?_; clear hK K)
            refine ask_step _ rfl trivial ?_; go_wp2_with (go_at_call 17; (with_reducible refine (L12.out _ B4.out).mono ?_); rintro e u5 ⟨rfl, hu5⟩; have B5 := Lib.hid (B4.out.trans (hu5.mono B4.out.size)); clear hu5)
            refine Seg.mk ⟨SS.out _ B5.out, ?_⟩
            refine ask_step _ rfl trivial ?_; go_wp2_with (go_at_call 17; (with_reducible refine (LA.out _ B5.out).mono ?_); rintro e u6 ⟨rfl, hu6⟩; have B6 := Lib.hid (B5.out.trans (hu6.mono B5.out.size)); clear hu6)
            refine Seg.mk ⟨SS.out _ B6.out, ?_⟩
            refine ask_late _ rfl trivial ?_; go_wp2_with (go_at_call 17; (with_reducible refine (LB.out _ B6.out).mono ?_); rintro e u7 ⟨rfl, hu7⟩; have B7 := Lib.hid (B6.out.trans (hu7.mono B6.out.size)); clear hu7)
            refine Seg.mk ?_
            refine take_any _ ?_ rfl rfl ?_ (fun K hK => ?_); rotate_left; (intro w0; go_simp; (try rfl)); (go_simp; refine hK _ ?_; clear hK K)
            refine take_any _ ?_ rfl rfl ?_ (fun K hK => ?_); rotate_left; (intro w0; go_simp; (try rfl)); (go_simp; refine hK _ ?_; clear hK K)
            refine take_any _ ?_ rfl rfl ?_ (fun K hK => ?_); rotate_left; (intro w0; go_simp; (try rfl)); (go_simp; refine hK _ ?_; clear hK K)
            refine take_any _ ?_ rfl rfl ?_ (fun K hK => ?_); rotate_left; (intro w0; go_simp; (try rfl)); (go_simp; refine hK _ ?_; clear hK K)
            refine ask_late _ rfl trivial ?_; go_wp2_with (go_at_call 9; (with_reducible refine (AW.out _).mono ?_); rintro e u9 ⟨rfl, hu9⟩; have B9 := B7.out.trans (hu9.mono B7.out.size)); refine Seg.mk ?_
            refine take_any _ ?_ rfl rfl ?_ (fun K hK => ?_); rotate_left; (intro w0; go_simp; (try rfl)); (go_simp; refine hK _ ?_; clear hK K)
            refine take_any _ ?_ rfl rfl ?_ (fun K hK => ?_); rotate_left; (intro w0; go_simp; (try rfl)); (go_simp; refine hK _ ?_; clear hK K)
            unfold wpPlan
            go_wp2
            go_ret
            exact ⟨rfl, HBd.out.trans (B9.mono (by rw [← HG.out]; exact HBd.out.size))⟩
          | false =>
            rw [Bool.false_and] at E12
            refine wp_region_plan (fun wx => wx.cell? ⟨S0 + 1, 0, none⟩ = some (.int .i64 0) ∧ wx.cell? ⟨S0 + 1, 1, none⟩ = some (.slice (some ⟨S0, 0, none⟩) 2 2) ∧ wx.cell? ⟨D0 + 1 + 1, 0, none⟩ = some (.int .i64 0) ∧ wx.cell? ⟨D0 + 1 + 1, 1, none⟩ = some (.slice (some ⟨D0, 0, none⟩) 1 1) ∧ wx.cell? ⟨D0 + 1 + 1 + 1, 0, none⟩ = some (.int .i64 0) ∧ wx.cell? ⟨D0 + 1 + 1 + 1, 1, none⟩ = some (.slice (some ⟨D0 + 1, 0, none⟩) 1 1)) [0, 6, 9, 13, 20, 25, 28] (.take 0 (.take 1 (.take 2 (.take 3 (.ask 4 true (.take 5 (.take 6 (.take 7 (.take 9 (.take 10 (.ask 8 true (.ask 11 true (.take 12 (.take 13 (.take 14 (.ask 15 true (.take 16 (.take 17 (.take 18 (.take 19 (.take 20 (.take 21 (.take 22 (.take 23 (.take 25 (.take 26 (.take 28 (.take 29 (.ask 24 true (.ask 27 true (.ask 30 false (.take 31 (.take 32 (.take 33 (.take 34 (.ask 35 false (.take 36 (.take 37 .stop)) .stop))))) .stop) .stop) .stop))))))))))))) .stop)))) .stop) .stop)))))) .stop))))) (by kernel_rfl) (by kernel_rfl) (fun _ d _ _ _ h => by cases d <;> exact h) (SS.out _ (Below.refl _ _)) ?_
            have B0 := Lib.hid (Below.refl wq.drew.heap.size wq.drew)
            clear X5 A3 A4 FA FB FAB IX IL IR HIX HIL HIR HRA1 HRB1 HRA2 HRB2 HS1 HX1 HS2 HX2 FR3 HBQ HBW HL1 HHb
            generalize wq.drew = wd at HBd VB E12 E1 E2 L12 LA LB SS B0 ⊢
            refine take_held _ ?_ rfl rfl (by decide) ?_ (fun K hK => ?_); rotate_left; (intro w0 hw0; obtain ⟨q1, q2, q3, q4, q5, q6⟩ := hw0; go_simp; (try rfl)); (go_simp; refine hK _ ?_; clear hK K)
            refine take_any _ ?_ rfl rfl ?_ (fun K hK => ?_); rotate_left; (intro w0; go_simp; (try rfl)); (go_simp; refine hK _ ?_; clear hK K)
            refine take_any _ ?_ rfl rfl ?_ (fun K hK => ?_); rotate_left; (intro w0; go_simp; (try rfl)); (go_simp; refine hK _ ?_; clear hK K)
            refine take_any _ ?_ rfl rfl ?_ (fun K hK => ?_); rotate_left; (intro w0; go_simp; (try rfl)); (go_simp; refine hK _ ?_; clear hK K)
            rw [HTI.out]
            refine ask_step _ rfl trivial ?_; go_wp2_with (go_at_call 15; (with_reducible refine (VB.out _ B0.out).mono ?_); rintro e u1 ⟨rfl, hu1⟩; have B1 := Lib.hid (B0.out.trans (hu1.mono B0.out.size)); clear hu1)
            refine Seg.mk ⟨SS.out _ B1.out, ?_⟩
            refine take_any _ ?_ rfl rfl ?_ (fun K hK => ?_); rotate_left; (intro w0; go_simp; (try rfl)); (go_simp; refine hK _ ?_; clear hK K)
            refine take_held _ ?_ rfl rfl (by decide) ?_ (fun K hK => ?_); rotate_left; (intro w0 hw0; obtain ⟨q1, q2, q3, q4, q5, q6⟩ := hw0; go_simp; (try rfl)); (go_simp; refine hK _ ?_; clear hK K)
            refine take_any _ ?_ rfl rfl ?_ (fun K hK => ?_); rotate_left; (intro w0; go_simp; (try rfl)); (go_simp; refine hK _ ?_; clear hK K)
            refine take_held _ ?_ rfl rfl (by decide) ?_ (fun K hK => ?_); rotate_left; (intro w0 hw0; obtain ⟨q1, q2, q3, q4, q5, q6⟩ := hw0; go_simp; (try rfl)); (go_simp; refine hK _ ?_; clear hK K)
            refine take_any _ ?_ rfl rfl ?_ (fun K hK => ?_); rotate_left; (intro w0; go_simp; (try rfl)); (go_simp; refine hK _ ?_; clear hK K)
            refine ask_step _ rfl trivial ?_; go_wp2_with (go_at_call 21; (with_reducible refine (E12.out _ B1.out).mono ?_); rintro e u2 ⟨rfl, hu2⟩; have B2 := Lib.hid (B1.out.trans (hu2.mono B1.out.size)); clear hu2)
            refine Seg.mk ⟨SS.out _ B2.out, ?_⟩
            refine ask_step _ rfl trivial ?_; go_wp2_with (go_at_call 21; (with_reducible refine (E1.out _ B2.out).mono ?_); rintro e u3 ⟨rfl, hu3⟩; have B3 := Lib.hid (B2.out.trans (hu3.mono B2.out.size)); clear hu3)
            refine Seg.mk ⟨SS.out _ B3.out, ?_⟩
            refine take_any _ ?_ rfl rfl ?_ (fun K hK => ?_); rotate_left; (intro w0; go_simp; (try rfl)); (go_simp; refine hK _ ?_; clear hK K)
            refine take_skip _ rfl rfl (fun K hK => ?_); (go_simp; refine hK _ ?_; clear hK K)
            refine take_skip _ rfl rfl (fun K hK => ?_); (go_simp; refine hK _ ?_; clear hK K)
            refine ask_step _ rfl trivial ?_; go_wp2_with fail
            refine Seg.mk ⟨SS.out _ B3.out, ?_⟩
            refine take_any _ ?_ rfl rfl ?_ (fun K hK => ?_); rotate_left; (intro w0; go_simp; (try rfl)); (go_simp; refine hK _ ?_; clear hK K)
            refine take_any _ ?_ rfl rfl ?_ (fun K hK => ?_); rotate_left; (intro w0; go_simp; (try rfl)); (go_simp; refine hK _ ?_; clear hK K)
            refine take_any _ ?_ rfl rfl ?_ (fun K hK => ?_); rotate_left; (intro w0; go_simp; (try rfl)); (go_simp; refine hK _ ?_; clear hK K)
            refine take_any _ ?_ rfl rfl ?_ (fun K hK => ?_); rotate_left; (intro w0; go_simp; (try rfl)); (go_simp; refine hK _ ?_; clear hK K)
            refine take_held _ ?_ rfl rfl (by decide) ?_ (fun K hK => ?_); rotate_left; (intro w0 hw0; obtain ⟨q1, q2, q3, q4, q5, q6⟩ := hw0; go_simp; (try rfl)); (go_simp; refine hK _ ?_; clear hK K)
            refine take_any _ ?_ rfl rfl ?_ (fun K hK => ?_); rotate_left; (intro w0; go_simp; (try rfl)); (go_simp; refine hK _ ?_; clear hK K)
            refine take_any _ ?_ rfl rfl ?_ (fun K hK => ?_); rotate_left; (intro w0; go_simp; (try rfl)); (go_simp; refine hK _ ?_; clear hK K)
            refine take_any _ ?_ rfl rfl ?_ (fun K hK => ?_); rotate_left; (intro w0; go_simp; (try rfl)); (go_simp; refine hK _ ?_; clear hK K)
            rw [HTI.out]
            refine take_held _ ?_ rfl rfl (by decide) ?_ (fun K hK => ?_); rotate_left; (intro w0 hw0; obtain ⟨q1, q2, q3, q4, q5, q6⟩ := hw0; go_simp; (try rfl)); (go_simp; refine hK _ ?_; clear hK K)
            refine take_any _ ?_ rfl rfl ?_ (fun K hK => ?_); rotate_left; (intro w0; go_simp; (try rfl)); (go_simp; refine hK _ ?_; clear hK K)
            refine take_held _ ?_ rfl rfl (by decide) ?_ (fun K hK => ?_); rotate_left; (intro w0 hw0; obtain ⟨q1, q2, q3, q4, q5, q6⟩ := hw0; go_simp; (try rfl)); (go_simp; refine hK _ ?_; clear hK K)
            refine take_any _ ?_ rfl rfl ?_ (fun K hK => ?_); rotate_left; (intro w0; go_simp; (try rfl)); (go_simp; refine hK _ ?_; clear hK K)
            refine ask_step _ rfl trivial ?_; go_wp2_with (go_at_call 17; (with_reducible refine (L12.out _ B3.out).mono ?_); rintro e u4 ⟨rfl, hu4⟩; have B4 := Lib.hid (B3.out.trans (hu4.mono B3.out.size)); clear hu4)
            refine Seg.mk ⟨SS.out _ B4.out, ?_⟩
            refine ask_step _ rfl trivial ?_; go_wp2_with (go_at_call 17; (with_reducible refine (LA.out _ B4.out).mono ?_); rintro e u5 ⟨rfl, hu5⟩; have B5 := Lib.hid (B4.out.trans (hu5.mono B4.out.size)); clear hu5)
            refine Seg.mk ⟨SS.out _ B5.out, ?_⟩
            refine ask_late _ rfl trivial ?_; go_wp2_with (go_at_call 17; (with_reducible refine (LB.out _ B5.out).mono ?_); rintro e u6 ⟨rfl, hu6⟩; have B6 := Lib.hid (B5.out.trans (hu6.mono B5.out.size)); clear hu6)
            refine Seg.mk ?_
            refine take_any _ ?_ rfl rfl ?_ (fun K hK => ?_); rotate_left; (intro w0; go_simp; (try rfl)); (go_simp; refine hK _ ?_; clear hK K)
            refine take_any _ ?_ rfl rfl ?_ (fun K hK => ?_); rotate_left; (intro w0; go_simp; (try rfl)); (go_simp; refine hK _ ?_; clear hK K)
            refine take_any _ ?_ rfl rfl ?_ (fun K hK => ?_); rotate_left; (intro w0; go_simp; (try rfl)); (go_simp; refine hK _ ?_; clear hK K)
            refine take_any _ ?_ rfl rfl ?_ (fun K hK => ?_); rotate_left; (intro w0; go_simp; (try rfl)); (go_simp; refine hK _ ?_; clear hK K)
            refine ask_late _ rfl trivial ?_; go_wp2_with (go_at_call 9; (with_reducible refine (AW.out _).mono ?_); rintro e u9 ⟨rfl, hu9⟩; have B9 := B6.out.trans (hu9.mono B6.out.size)); refine Seg.mk ?_
            refine take_any _ ?_ rfl rfl ?_ (fun K hK => ?_); rotate_left; (intro w0; go_simp; (try rfl)); (go_simp; refine hK _ ?_; clear hK K)
            refine take_any _ ?_ rfl rfl ?_ (fun K hK => ?_); rotate_left; (intro w0; go_simp; (try rfl)); (go_simp; refine hK _ ?_; clear hK K)
            unfold wpPlan
            go_wp2
            go_ret
            exact ⟨rfl, HBd.out.trans (B9.mono (by rw [← HG.out]; exact HBd.out.size))⟩
end Go.Proofs.Ytefhhfpdponabaa
