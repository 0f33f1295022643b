/- The document's tree of a key: its levels. -/
import Derived.Test.YtpophimnoakinaaDoorKrf
import Derived.Test.YtpophimnoakinaaDoorPlan
import Derived.Deep.DeepCutAuto
namespace Go.Proofs.YtpophimnoakinaaDoor
open Go.ChangeShapes Go.WideShapes Go.ChangeAt Go.RowKit
set_option linter.unusedVariables false
set_option linter.unusedSimpArgs false

/-- The first n nodes of a level. -/
def lvS (seed : ByteArray) (k n : Nat) : List Value := (List.range n).map fun i => .string (lvB seed k i)
theorem lvS_length (seed : ByteArray) (k n : Nat) : (lvS seed k n).length = n := by simp [lvS]
theorem lvS_succ (seed : ByteArray) (k n : Nat) : lvS seed k (n + 1) = lvS seed k n ++ [.string (lvB seed k n)] := by simp [lvS, List.range_succ]
theorem lvS_get (seed : ByteArray) (k n j : Nat) (hj : j < n) : (lvS seed k n)[j]? = some (.string (lvB seed k j)) := by simp [lvS, hj]
/-- How many nodes a level has. -/
def lvN : Nat → Nat | 0 => 8 | 1 => 4 | 2 => 2 | _ => 1
/-- A slice that holds a level. -/
def LvAt (w : World) (B : Nat) (seed : ByteArray) (k : Nat) (v : Value) : Prop := ∃ g cap, v = .slice (some ⟨g, 0, none⟩) (lvN k) cap ∧ B ≤ g ∧ lvN k ≤ cap ∧ cap ≤ maxLen ∧ Row w g 9 cap (lvS seed k (lvN k))
theorem LvAt.below {w w' : World} {B : Nat} {seed : ByteArray} {k : Nat} {v : Value} (h : LvAt w B seed k v) (hb : Below w.heap.size w w') : LvAt w' B seed k v := by
  obtain ⟨g, cap, e, h1, h2, h3, h4⟩ := h
  exact ⟨g, cap, e, h1, h2, h3, h4.below hb h4.lt⟩
def LvsAt (w : World) (B : Nat) (seed : ByteArray) (vs : List Value) : Prop := ∀ j v, vs[j]? = some v → LvAt w B seed j v
theorem LvsAt.below {w w' : World} {B : Nat} {seed : ByteArray} {vs : List Value} (h : LvsAt w B seed vs) (hb : Below w.heap.size w w') : LvsAt w' B seed vs := fun j v e => (h j v e).below hb
theorem LvsAt.snoc {w : World} {B : Nat} {seed : ByteArray} {vs : List Value} {k : Nat} {v : Value} (h : LvsAt w B seed vs) (hl : vs.length = (k + 1) * 1) (hv : LvAt w B seed (k + 1) v) : LvsAt w B seed (vs ++ [v]) := fun j u e => by
  by_cases hj : j < vs.length
  · rw [List.getElem?_append_left hj] at e; exact h j u e
  · rw [List.getElem?_append_right (by omega)] at e
    obtain rfl : j = k + 1 := by
      have : j - vs.length < 1 := by
        by_cases h0 : j - vs.length < 1
        · exact h0
        · rw [List.getElem?_eq_none (by simpa using Nat.le_of_not_lt h0)] at e; cases e
      omega
    rw [show k + 1 - vs.length = 0 by omega] at e
    cases e; exact hv
theorem LvAt.alloc {w : World} {B : Nat} {seed : ByteArray} {k : Nat} {v : Value} (h : LvAt w B seed k v) (o : Obj) : LvAt (w.alloc o) B seed k v := by
  obtain ⟨g, cap, e, h1, h2, h3, h4⟩ := h
  exact ⟨g, cap, e, h1, h2, h3, h4.alloc o⟩
theorem LvsAt.alloc {w : World} {B : Nat} {seed : ByteArray} {vs : List Value} (h : LvsAt w B seed vs) (o : Obj) : LvsAt (w.alloc o) B seed vs := fun j v e => (h j v e).alloc o
theorem LvsAt.grown {w w' : World} {B B' T n : Nat} {seed : ByteArray} {vo : Value} {os vs : List Value} (h : LvsAt w B seed vs) (ho : w.ownsRow B' T 1 vo n os) (hT : T ≠ 9) (hg : w.grownBy w' vo.ownBlock) : LvsAt w' B seed vs := fun j v e => by
  obtain ⟨g, cap, e1, h1, h2, h3, cur, fr, hh, r⟩ := h j v e
  refine ⟨g, cap, e1, h1, h2, h3, cur, fr, (hg.block g (lt_of_block hh) fun eb => ?_).trans hh, r⟩
  obtain ⟨_, ⟨rfl, _⟩ | ⟨g', c', cur', rfl, _, hh', _⟩⟩ := ho
  · simp [Value.ownBlock] at eb
  · simp [Value.ownBlock] at eb
    subst eb
    rw [hh] at hh'
    cases hh'
    exact hT rfl
def lenOf : Value → Nat | .slice _ n _ => n | _ => 0
/-- All levels, in new memory. -/
def TreeAt (B : Nat) (seed : ByteArray) (w0 : World) (e : Ending) (w' : World) : Prop := ∃ v vs, e = .returned v ∧ w'.ownsRow B 30 1 v 4 vs ∧ LvsAt w' B seed vs ∧ Below B w0 w'
theorem Tryd.infostr : (Tryd.prog.info? 9).map (fun i => (i.zero, i.size, i.bytes)) = some (some (.string ⟨#[]⟩), 1, 16) := by kernel_rfl
theorem Tryd.infosl : (Tryd.prog.info? 30).map (fun i => (i.zero, i.size, i.bytes)) = some (some (.slice none 0 0), 1, 24) := by kernel_rfl
set_option maxHeartbeats 1600000 in
set_option maxRecDepth 100000 in
theorem rlevels_any (seed : ByteArray) (w : World) (hs : seed.size ≤ 999990) : Calls Tryd.prog 32 #[.string seed] w (TreeAt w.heap.size seed w) := by
  obtain ⟨i0, hi, hz0, hz1, hz2⟩ := info_parts Tryd.infostr
  obtain ⟨s0, si, sz0, sz1, sz2⟩ := info_parts Tryd.infosl
  have HS := Lib.hid (And.intro si (And.intro sz0 (And.intro sz1 sz2)))
  clear si sz0 sz1 sz2
  have LF := Lib.hid (fun (wx : World) (u : Int) => rleaf12_any seed u wx hs)
  have HI := Lib.hid (And.intro hi (And.intro hz0 (And.intro hz1 hz2)))
  go_enter Tryd.func32, Tryd.ntmps32
  go_wp2
  go_loopw [3, 8] (fun v i wr => ∃ j : Nat, ∃ ao cap, j ≤ 8 ∧ i = .int .i64 j ∧ v = .slice ao j cap ∧ wr.ownsRow w.heap.size 9 1 (.slice ao j cap) j (lvS seed 0 j) ∧ Below w.heap.size w wr) (fun _ i _ => 8 - (intOf i).toNat)
  case atStart => exact ⟨0, none, 0, Nat.zero_le _, rfl, rfl, World.ownsRow_nil _ _ _ _, Below.refl _ _⟩
  case round =>
    obtain ⟨j, ao, cap, hj, rfl, rfl, hr, hb⟩ := hrel
    by_cases hlt : j < 8
    · have L1 := Lib.hid (LF.out wr j)
      have HL : Hid (lvS seed 0 j ++ [.string (leafB seed j)] = lvS seed 0 (j + 1)) := Lib.hid (by rw [lvS_succ]; rfl)
      obtain ⟨lf, hlf⟩ : ∃ lf, lf = leafB seed j := ⟨_, rfl⟩
      rw [← hlf] at L1 HL
      have hbs := hb.size
      clear hlf
      go_wp2_with (first
        | (go_at_call 9; (with_reducible refine L1.out.mono ?_); rintro e w1 ⟨rfl, hb1⟩; have hr1 := owns_below hr hb1; have hB1 := hb.trans (hb1.mono hb.size); have hbs1 := hB1.size; clear hr hb)
        | (at_builtin; refine wpList_append_own _ rfl (.tmp 11) (.tmp 15) 30 rfl w.heap.size 9 i0 (.string ⟨#[]⟩) 1 16 Tryd.underlying30 hi hz0 hz1 hz2 rfl (by decide) _ j _ rfl (hr1.alloc _) ⟨w1.heap.size, 0, none⟩ 1 1 [.string lf] rfl rfl (cells_new _ _ _ _ rfl) (by intro u hu; simp at hu; subst hu; rfl) (by unfold maxLen; omega) (by omega) (by simp; omega) ?_; intro v2 w2 hO2 hg2 _))
      obtain ⟨a2, c2, rfl, -, -⟩ := own_form hO2
      have hb2 := obelow (hB1.alloc (o := .cells #[.string lf] 9) (by omega)) (hr1.alloc _) hg2 (by simp; omega)
      rw [HL.out] at hO2
      clear hg2 hr1 hB1
      go_wp2
      go_roundw
      case rel => exact ⟨j + 1, a2, c2, by omega, by go_num, rfl, hO2, hb2⟩
      case measure => simp [intOf]; omega
    · obtain rfl : j = 8 := by omega
      obtain ⟨g0, cap0, hv0, hg0B, hc0, hm0, hrow0⟩ := own_some hr (by decide)
      obtain ⟨rfl, rfl⟩ : ao = some ⟨g0, 0, none⟩ ∧ cap = cap0 := by cases hv0; exact ⟨rfl, rfl⟩
      have hbs := hb.size
      have hOut : (wr.alloc (.cells #[.slice (some ⟨g0, 0, none⟩) 8 cap] 30)).ownsRow w.heap.size 30 1 (.slice (some ⟨wr.heap.size, 0, none⟩) 1 1) 1 [.slice (some ⟨g0, 0, none⟩) 8 cap] := ⟨rfl, .inr ⟨_, 1, #[.slice (some ⟨g0, 0, none⟩) 8 cap], rfl, hbs, by show (wr.heap.push _)[wr.heap.size]? = _; simp, Nat.le_refl _, by decide, rfl, rfl⟩⟩
      have hLv : LvsAt (wr.alloc (.cells #[.slice (some ⟨g0, 0, none⟩) 8 cap] 30)) w.heap.size seed [.slice (some ⟨g0, 0, none⟩) 8 cap] := fun j v e => by
        cases j with
        | zero => cases e; exact ⟨g0, cap, rfl, hg0B, hc0, hm0, hrow0.alloc _⟩
        | succ j => simp at e
      have hB2 := hb.alloc (o := .cells #[.slice (some ⟨g0, 0, none⟩) 8 cap] 30) hb.size
      go_upto_region 8 with fail
      obtain ⟨i8, hi8⟩ : ∃ i8 : Value, i8 = .int .i64 ((8 : Nat) : Int) := ⟨_, rfl⟩
      try rw [← hi8]
      try (rw [show (8 : Int) = ((8 : Nat) : Int) from rfl, ← hi8])
      clear hi8
      clear hr hrow0 hb hbs hi hz0 hz1 hz2
      generalize wr.alloc (.cells #[.slice (some ⟨g0, 0, none⟩) 8 cap] 30) = wq at hOut hLv hB2 ⊢
      generalize wr.heap.size = gq at hOut ⊢
      obtain ⟨cap0', hcap0'⟩ : ∃ c, c = cap := ⟨_, rfl⟩
      go_loopw [3, 5] (fun l o wr => ∃ (k : Nat) (vs : List Value) (gl capl : Nat) (og : Option Addr) (oc : Nat), k ≤ 3 ∧ l = .slice (some ⟨gl, 0, none⟩) (lvN k) capl ∧ vs[k]? = some (.slice (some ⟨gl, 0, none⟩) (lvN k) capl) ∧ o = .slice og (k + 1) oc ∧ wr.ownsRow w.heap.size 30 1 (.slice og (k + 1) oc) (k + 1) vs ∧ LvsAt wr w.heap.size seed vs ∧ Below w.heap.size w wr) (fun _ o _ => 4 - lenOf o)
      case atStart => exact ⟨0, _, g0, cap, _, 1, by omega, rfl, rfl, rfl, hOut, hLv, hB2⟩
      case round =>
        clear hOut hLv hB2
        obtain ⟨k, vs, gl, capl, og, oc, hk, rfl, hvk, rfl, hO, hL, hB⟩ := hrel
        obtain ⟨gl', cl', hle, hglB, hcl, hclm, hrl⟩ := hL k _ hvk
        obtain ⟨rfl, rfl⟩ : gl = gl' ∧ capl = cl' := by cases hle; exact ⟨rfl, rfl⟩
        have hBs := hB.size
        by_cases hk3 : k < 3
        · have hn : lvN k = 2 * lvN (k + 1) ∧ 1 ≤ lvN (k + 1) ∧ lvN k ≤ 8 := by
            rcases (by omega : k = 0 ∨ k = 1 ∨ k = 2) with rfl | rfl | rfl <;> decide
          obtain ⟨n, hne⟩ : ∃ n, n = lvN k := ⟨_, rfl⟩
          obtain ⟨m, hme⟩ : ∃ m, m = lvN (k + 1) := ⟨_, rfl⟩
          rw [← hne, ← hme] at hn
          rw [← hne] at hcl hrl hvk ⊢
          have hn1 : (1 : Int) < (n : Int) := by omega
          have HN := Lib.hid hn
          have HNE := Lib.hid hne
          have HME := Lib.hid hme
          have HVK := Lib.hid hvk
          clear hn hne hme hvk hle
          obtain ⟨W0, rfl⟩ : ∃ W0, W0 = wr := ⟨_, rfl⟩
          go_upto_region 11 with fail
          go_loopw [6, 7] (fun u i wi => ∃ (j p : Nat) (a : Option Addr) (c : Nat), j ≤ m ∧ i = .int .i64 p ∧ Hid (p = 2 * j) ∧ u = .slice a j c ∧ wi.ownsRow W0.heap.size 9 1 (.slice a j c) j (lvS seed (k + 1) j) ∧ Below W0.heap.size W0 wi) (fun _ i _ => n - (intOf i).toNat)
          case atStart => exact ⟨0, 0, none, 0, Nat.zero_le _, rfl, Lib.hid rfl, rfl, World.ownsRow_nil _ _ _ _, Below.refl _ _⟩
          case round =>
            obtain ⟨j, p, a, c, hj, rfl, hp, rfl, hu, hI⟩ := hrel
            have hIs := hI.size
            by_cases hlt : j < m
            · have hpn : p + 1 < n := by have := HN.out.1; have := hp.out; omega
              have hrI := hrl.below hI hrl.lt
              have c1 := hrI.cellAt (lvS_get seed k n p (by omega))
              have c2 := hrI.cellAt (lvS_get seed k n (p + 1) (by omega))
              have hj8 : j ≤ 8 := by have := HN.out; omega
              have hp8 : p + 1 ≤ 8 := by have := HN.out.2.2; omega
              have HV : Hid (lvS seed (k + 1) j ++ [.string (nodB (lvB seed k p) (lvB seed k (p + 1)))] = lvS seed (k + 1) (j + 1)) := Lib.hid (by rw [lvS_succ, hp.out]; rfl)
              have s1 := lvB_size seed k p
              have s2 := lvB_size seed k (p + 1)
              obtain ⟨x, hx⟩ : ∃ x, x = lvB seed k p := ⟨_, rfl⟩
              obtain ⟨y, hy⟩ : ∃ y, y = lvB seed k (p + 1) := ⟨_, rfl⟩
              rw [← hx] at c1 s1 HV
              rw [← hy] at c2 s2 HV
              have ND := Lib.hid (fun wx => rnode12_any x y wx (by omega) (by omega))
              obtain ⟨z, hz⟩ : ∃ z, z = nodB x y := ⟨_, rfl⟩
              rw [← hz] at ND HV
              have HU := Lib.hid hu
              have HIB := Lib.hid hI
              have hcn : (n : Int) ≤ 8 := by have := HN.out.2.2; omega
              obtain ⟨q, hq⟩ : ∃ q, q = p + 1 := ⟨_, rfl⟩
              have HW : Hid (IntKind.i64.wrap ((p : Int) + 1) = (q : Int)) := Lib.hid (by rw [IntKind.wrap_i64]; omega)
              rw [← hq] at c2 hpn
              have HQ := Lib.hid hq
              have hqi : (q : Int) < (n : Int) := by omega
              have hpi : (p : Int) < (n : Int) := by omega
              clear hq
              clear hx hy hz hrI s1 s2 hu hI
              go_upto_region 13 with fail
              refine wp_region_plan (fun w' => w'.cell? ⟨gl, p, none⟩ = some (.string x) ∧ w'.cell? ⟨gl, q, none⟩ = some (.string y)) [4, 9] (.take 0 (.take 1 (.take 2 (.take 3 (.take 4 (.take 5 (.take 6 (.take 7 (.take 8 (.take 9 (.ask 10 false (.ask 11 false (.ask 12 false (.take 13 .stop) .stop) .stop) .stop))))))))))) (by kernel_rfl) (by kernel_rfl) (fun _ d _ _ _ h => by cases d <;> exact h) ⟨c1, c2⟩ ?_
              have hud : wr.drew.ownsRow W0.heap.size 9 1 (.slice a j c) j (lvS seed (k + 1) j) := HU.out
              have hbd : Below W0.heap.size W0 wr.drew := HIB.out.drew
              have HUD := Lib.hid hud
              clear c1 c2 hud
              generalize wr.drew = wd at HUD hbd ⊢
              refine take_any _ ?_ rfl rfl ?_ (fun K hK => ?_); rotate_left; (intro w0; go_simp; (try rfl)); (go_simp; refine hK _ ?_; clear hK K)
              refine take_any _ ?_ rfl rfl ?_ (fun K hK => ?_); rotate_left; (intro w0; go_simp; (try rfl)); (go_simp; refine hK _ ?_; clear hK K)
              refine take_any _ ?_ rfl rfl ?_ (fun K hK => ?_); rotate_left; (intro w0; go_simp; (try rfl)); (go_simp; refine hK _ ?_; clear hK K)
              refine take_any _ ?_ rfl rfl ?_ (fun K hK => ?_); rotate_left; (intro w0; go_simp; (try rfl)); (go_simp; refine hK _ ?_; clear hK K)
              refine take_held _ ?_ rfl rfl (by decide) ?_ (fun K hK => ?_); rotate_left; (intro w0 hw0; go_simp; (try rfl)); (go_simp; refine hK _ ?_; clear hK K)
              refine take_any _ ?_ rfl rfl ?_ (fun K hK => ?_); rotate_left; (intro w0; go_simp; (try rfl)); (go_simp; refine hK _ ?_; clear hK K)
              refine take_any _ ?_ rfl rfl ?_ (fun K hK => ?_); rotate_left; (intro w0; go_simp; (try rfl)); (go_simp; refine hK _ ?_; clear hK K)
              refine take_any _ ?_ rfl rfl ?_ (fun K hK => ?_); rotate_left; (intro w0; go_simp; (try rfl)); (go_simp; refine hK _ ?_; clear hK K)
              rw [HW.out]
              refine take_any _ ?_ rfl rfl ?_ (fun K hK => ?_); rotate_left; (intro w0; go_simp; (try rfl)); (go_simp; refine hK _ ?_; clear hK K)
              refine take_held _ ?_ rfl rfl (by decide) ?_ (fun K hK => ?_); rotate_left; (intro w0 hw0; go_simp; (try rfl)); (go_simp; refine hK _ ?_; clear hK K)
              refine ask_late _ rfl trivial ?_; go_wp2_with (go_at_call 47; (with_reducible refine (ND.out _).mono ?_); rintro e w3 ⟨rfl, hb3⟩); refine Seg.mk ?_
              have hu3 := owns_below HUD.out hb3
              have B3 := hbd.trans (hb3.mono hbd.size)
              have B3s := B3.size
              refine ask_late _ rfl trivial ?_; go_wp2_with fail; refine Seg.mk ?_
              refine ask_late _ rfl trivial ?_
              go_wp2_with (at_builtin; refine wpList_append_own _ rfl (.tmp 29) (.tmp 40) 30 rfl W0.heap.size 9 i0 (.string ⟨#[]⟩) 1 16 Tryd.underlying30 HI.out.1 HI.out.2.1 HI.out.2.2.1 HI.out.2.2.2 rfl (by decide) _ j _ rfl (hu3.alloc _) ⟨w3.heap.size, 0, none⟩ 1 1 [.string z] rfl rfl (cells_new _ _ _ _ rfl) (by intro u hu; simp at hu; subst hu; rfl) (by unfold maxLen; omega) (by omega) (by simp; omega) ?_; intro v2 w4 hO2 hg2 _)
              obtain ⟨a2, c2, rfl, -, -⟩ := own_form hO2
              have hb4 := obelow (B3.alloc (o := .cells #[.string z] 9) B3s) (hu3.alloc _) hg2 (by simp; omega)
              rw [HV.out] at hO2
              refine Seg.mk ?_
              refine take_any _ ?_ rfl rfl ?_ (fun K hK => ?_); rotate_left; (intro w0; go_simp; (try rfl)); (go_simp; refine hK _ ?_; clear hK K)
              unfold wpPlan
              clear hg2 hu3 B3 B3s hbd
              go_wp2
              go_roundw
              case rel => exact ⟨j + 1, p + 2, a2, c2, by omega, by go_num, Lib.hid (by have := hp.out; omega), rfl, hO2, hb4⟩
              case measure => simp [intOf]; omega
            · obtain rfl : j = m := by omega
              obtain ⟨g1, c1, hv1, hg1, hc1, hm1, hrow1⟩ := own_some hu (by have := HN.out; omega)
              obtain ⟨rfl, rfl⟩ : a = some ⟨g1, 0, none⟩ ∧ c = c1 := by cases hv1; exact ⟨rfl, rfl⟩
              have hp8 : ¬ (p < n) := by have := HN.out.1; have := hp.out; omega
              have hp9 : ¬ ((p : Int) < (n : Int)) := by omega
              have hO1 := owns_below hO hI
              have hB1 := hB.trans (hI.mono hBs)
              have hL1 : LvsAt wr w.heap.size seed (vs ++ [.slice (some ⟨g1, 0, none⟩) j c]) := (hL.below hI).snoc hO1.1 ⟨g1, c, by rw [← HME.out], by omega, by rw [← HME.out]; exact hc1, hm1, by rw [← HME.out]; exact hrow1⟩
              have HL1 := Lib.hid hL1
              have HO1 := Lib.hid hO1
              have HB1 := Lib.hid hB1
              clear hL1 hO1 hB1 hL hO hB hu hI hrow1 hrl hv1
              go_upto_region 14 with fail
              go_wp2_with (at_builtin; refine wpList_append_own _ rfl (.tmp 42) (.tmp 44) 40 rfl w.heap.size 30 s0 (.slice none 0 0) 1 24 Tryd.underlying40 HS.out.1 HS.out.2.1 HS.out.2.2.1 HS.out.2.2.2 rfl (by decide) _ (k + 1) _ rfl (HO1.out.alloc _) ⟨wr.heap.size, 0, none⟩ 1 1 [.slice (some ⟨g1, 0, none⟩) j c] rfl rfl (cells_new _ _ _ _ rfl) (by intro u hu; simp at hu; subst hu; rfl) (by unfold maxLen; omega) (by omega) (by have := HB1.out.size; simp; omega) ?_; intro v2 w2 hO2 hg2 _)
              obtain ⟨a2, c2, rfl, -, -⟩ := own_form hO2
              have hb2 := obelow (HB1.out.alloc (o := .cells #[.slice (some ⟨g1, 0, none⟩) j c] 30) HB1.out.size) (HO1.out.alloc _) hg2 (by have := HB1.out.size; simp; omega)
              have hL2 := (HL1.out.alloc (.cells #[.slice (some ⟨g1, 0, none⟩) j c] 30)).grown (HO1.out.alloc _) (by decide) hg2
              have hk2 : (vs ++ [.slice (some ⟨g1, 0, none⟩) j c])[k + 1]? = some (.slice (some ⟨g1, 0, none⟩) (lvN (k + 1)) c) := by
                have hl := HO1.out.1
                rw [List.getElem?_append_right (by omega), ← HME.out]; simp [hl]
              clear hg2
              go_wp2
              go_roundw
              case rel => exact ⟨k + 1, _, g1, c, a2, c2, by omega, by rw [← HME.out], hk2, rfl, hO2, hL2, hb2⟩
              case measure => simp [lenOf]; omega
        · obtain rfl : k = 3 := by omega
          have hn1 : ¬ ((1 : Int) < ((lvN 3 : Nat) : Int)) := by decide
          go_wp2
          go_ret
          exact ⟨_, vs, rfl, hO, hL, hB⟩
end Go.Proofs.YtpophimnoakinaaDoor
