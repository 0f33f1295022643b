/- The kit's thresholds: some threshold that is valid for a number of keys, in new memory. -/
import Derived.Test.YtefhhfpdponabaaTls
namespace Go.Proofs.Ytefhhfpdponabaa
open Go.ChangeShapes Go.WideShapes Go.ChangeAt Go.RowKit
set_option linter.unusedVariables false
set_option linter.unusedSimpArgs false

/-- Lists of fractions whose memory lies from the block A on. -/
def FrssIn (A : Nat) (w : World) (v : Value) (ws : List (List FR)) : Prop :=
  ∀ w' : World, w.heap.size ≤ w'.heap.size → (∀ b, A ≤ b → b < w.heap.size → w'.heap[b]? = w.heap[b]?) → FrssAt w.heap.size w' v ws
theorem FrssIn.now {A : Nat} {w : World} {v : Value} {ws : List (List FR)} (h : FrssIn A w v ws) : FrssAt w.heap.size w v ws := h w (Nat.le_refl _) (fun _ _ _ => rfl)
theorem FrssIn.step {A : Nat} {w w1 : World} {v : Value} {ws : List (List FR)} (h : FrssIn A w v ws) (hs : w.heap.size ≤ w1.heap.size) (hk : ∀ b, A ≤ b → b < w.heap.size → w1.heap[b]? = w.heap[b]?) : FrssIn A w1 v ws := fun w' hs' hk' =>
  (h w' (Nat.le_trans hs hs') (fun b h1 h2 => (hk' b h1 (Nat.lt_of_lt_of_le h2 hs)).trans (hk b h1 h2))).mono hs
theorem FrssIn.below {A : Nat} {w w1 : World} {v : Value} {ws : List (List FR)} (h : FrssIn A w v ws) (hb : Below w.heap.size w w1) : FrssIn A w1 v ws := h.step hb.size (fun b _ h2 => hb.block b h2)
theorem FrssIn.grown {A g : Nat} {w w1 : World} {v : Value} {ws : List (List FR)} (h : FrssIn A w v ws) (hb : w.grownBy w1 (some g)) (hg : g < A) : FrssIn A w1 v ws := h.step hb.size (fun b h1 h2 => hb.block b h2 (by intro e; cases e; omega))
theorem one_of_one {l : List FR} (hl : wts l) (i : Nat) (hi : l[i]? = some (1, 1)) : oneB l = true := by
  have h1 : ∀ (l : List FR) (k i : Nat), l[i]? = some (1, 1) → pick (fun j => j == k + i) k l = [(1, 1)] := by
    intro l
    induction l with
    | nil => intro k i h; simp at h
    | cons f r ih =>
      intro k i h
      cases i with
      | zero =>
        simp at h; subst h
        unfold pick
        rw [if_pos (by simp), pick_none r _ (k + 1) (fun j h1 h2 => by simp; omega)]
      | succ i =>
        unfold pick
        rw [if_neg (by simp)]
        have := ih (k + 1) i (by simpa using h)
        rw [show k + 1 + i = k + (i + 1) by omega] at this
        exact this
  have h2 := one_mono (p := fun j => j == 0 + i) (q := fun _ => true) (fun _ _ => rfl) hl 0 (by rw [h1 l 0 i hi]; decide)
  rwa [pick_all l _ 0 (fun _ _ _ => rfl)] at h2
theorem ret_thr {f : Func} {Q : Ending → World → Prop} {a : Act} {w : World} {g c : Nat} {x0 x1 : Value} (h : Arr w g 25 [x0, x1]) (hres : f.results = #[.cell c 25]) (hc : a.tmps.getD c undef = .pointer (some ⟨g, 0, none⟩)) (hd : a.defers = [])
    (hQ : Q (.returned (.agg #[x0, x1])) w) : bodyPost Try.prog f Q .ret a w := by
  refine bodyPost_ret (v := .agg #[x0, x1]) ?_ hd hQ
  have q0 : w.cell? ⟨g, 0, none⟩ = some x0 := h.cellAt rfl
  have q1 : w.cell? ⟨g, 1, none⟩ = some x1 := h.cellAt rfl
  obtain ⟨tm, df⟩ := a
  simp only [Array.getD_eq_getD_getElem?] at hc
  simp [results, hres, go_sem, hc, q0, q1]
theorem Try.infoth : (Try.prog.info? 25).map (·.size) = some 2 := by kernel_rfl
theorem one2v (a : Int) (o : Option Addr) (n c : Nat) : ∀ v ∈ [Value.int .i64 a, .slice o n c], v.oneCell' = true := by
  intro v hv
  simp only [List.mem_cons, List.not_mem_nil, or_false] at hv
  rcases hv with rfl | rfl <;> rfl
/-- What the kit makes: some threshold for so many keys. -/
def SomeThr (A : Nat) (keys : Nat) (e : Ending) (w : World) : Prop := ∃ (num : Int) (ws : List (List FR)) (o : Option Addr) (c : Nat), e = .returned (.agg #[.int .i64 num, .slice o ws.length c]) ∧ FrssIn A w (.slice o ws.length c) ws ∧ validB num ws keys = true ∧ ws.length ≤ 2 ∧ in64 num ∧ c = ws.length
theorem frss_nil (A : Nat) (w : World) : FrssIn A w (.slice none 0 0) [] := fun w' _ _ => ⟨none, 0, rfl, Nat.le_refl _, Nat.zero_le _, fun i l e => by simp at e⟩
def six : List FR := [(1, 2), (1, 3), (2, 3), (1, 1), (0, 1), (99, 100)]
theorem six_wt : ∀ f ∈ six, wtB f = true := by decide
theorem grown_row {W a : World} {row : Option Nat} (h : W.grownBy a row) (g : Nat) (hg : W.heap.size ≤ g) (ys : Array Value) : W.grownBy (a.setRow g ys) row :=
  ⟨h.os, h.tape, h.output, by simpa using h.size, fun i hi hne => (setRow_other a g i ys (by omega)).trans (h.block i hi hne)⟩
theorem validB_num {n : Int} {keys : Nat} (h1 : 1 ≤ n) (h2 : n ≤ keys) (h8 : keys ≤ 8) : validB n [] keys = true := by
  unfold validB
  rw [if_neg (by omega), if_neg (by omega), if_pos rfl, decide_eq_true h1, decide_eq_true h2]; rfl
theorem own_row2 {w : World} {base n : Nat} {e : TypeId} {v : Value} {xs : List Value} (h : w.ownsRow base e 2 v n xs) (hn : 1 ≤ n) : ∃ g cap, v = .slice (some ⟨g, 0, none⟩) n cap ∧ base ≤ g ∧ n ≤ cap ∧ cap ≤ maxLen ∧ Row w g e (cap * 2) xs := by
  obtain ⟨hl, ⟨_, h0⟩ | ⟨g, cap, cur, rfl, hg, hh, hn', hm, hs, ht⟩⟩ := h
  · omega
  · exact ⟨g, cap, rfl, hg, hn', hm, cur, (0, 0), hh, by omega, by omega, by rw [hl, ht], .inl rfl⟩
theorem cellsF_length : ∀ l : List FR, (cellsF l).length = l.length * 2
  | [] => rfl
  | f :: l => by
    have e : cellsF (f :: l) = [.int .i64 f.1, .int .i64 f.2] ++ cellsF l := rfl
    rw [e, List.length_append, cellsF_length l, List.length_cons]; simp; omega
theorem cellsF_set : ∀ (l : List FR) (q : Nat) (a b : Int), ((cellsF l).set (q * 2) (.int .i64 a)).set (q * 2 + 1) (.int .i64 b) = cellsF (l.set q (a, b))
  | [], q, a, b => rfl
  | f :: l, 0, a, b => rfl
  | f :: l, q + 1, a, b => by
    have e : ∀ (f : FR) (l : List FR), cellsF (f :: l) = .int .i64 f.1 :: .int .i64 f.2 :: cellsF l := fun _ _ => rfl
    rw [List.set_cons_succ, e, e, ← cellsF_set l q a b, show (q + 1) * 2 = q * 2 + 1 + 1 by omega]
    rfl
theorem frs_sub {B : Nat} {w : World} {g T C : Nat} {l : List FR} (h : Row w g T C (cellsF l)) (hg : g < B) (k n cap : Nat) (hk : k + n ≤ l.length) (hc : n ≤ cap) (hm : cap ≤ maxLen) (hw : ∀ f ∈ l, wtB f = true) : FrsAt B w (.slice (some ⟨g, k * 2, none⟩) n cap) ((l.drop k).take n) := by
  have hl : ((l.drop k).take n).length = n := by rw [List.length_take, List.length_drop]; omega
  refine ⟨_, cap, by rw [hl], by omega, hm, fun f hf => ?_, fun i f e => ?_⟩
  · have := (wtB_iff f).1 (hw f (List.mem_of_mem_drop (List.mem_of_mem_take hf)))
    unfold in64
    omega
  · have hi : i < n := by
      rcases Nat.lt_or_ge i n with h | h
      · exact h
      · rw [List.getElem?_eq_none (by omega)] at e; cases e
    rw [List.getElem?_take, if_pos hi, List.getElem?_drop] at e
    have c := cellsF_get l (k + i) f e
    refine ⟨g, k * 2, rfl, hg, ?_, ?_⟩
    · rw [show k * 2 + i * 2 = (k + i) * 2 by omega]; exact h.cellAt c.1
    · rw [show k * 2 + i * 2 = (k + i) * 2 by omega]; exact h.cellAt c.2
theorem valid_one {l : List FR} (hl : l.length ≤ 8) (h1 : 1 ≤ l.length) (hw : ∀ f ∈ l, wtB f = true) (q : Nat) (hq : l[q]? = some (1, 1)) : validB 0 [l] (l.length : Int) = true := by
  unfold validB
  rw [if_neg (by omega), if_neg (by omega), if_neg (by simp)]
  have ho := one_of_one ⟨hl, hw⟩ q hq
  simp only [List.all_cons, List.all_nil, ho, lenL]
  cases l with
  | nil => simp at h1
  | cons a r => simp
theorem valid_two {a b : List FR} (hl : a.length + b.length ≤ 8) (ha : 1 ≤ a.length) (hb : 1 ≤ b.length) (hwa : ∀ f ∈ a, wtB f = true) (hwb : ∀ f ∈ b, wtB f = true) (q r : Nat) (hq : a[q]? = some (1, 1)) (hr : b[r]? = some (1, 1)) : validB 0 [a, b] ((a.length + b.length : Nat) : Int) = true := by
  unfold validB
  rw [if_neg (by omega), if_neg (by omega), if_neg (by simp)]
  have ho := one_of_one ⟨by omega, hwa⟩ q hq
  have ho' := one_of_one ⟨by omega, hwb⟩ r hr
  simp only [List.all_cons, List.all_nil, ho, ho', lenL]
  cases a with
  | nil => simp at ha
  | cons x xs =>
    cases b with
    | nil => simp at hb
    | cons y ys => simp
set_option maxHeartbeats 1600000 in
set_option maxRecDepth 100000 in
theorem kthr_any (B g : Nat) (keys : Nat) (w : World) (hk : keys ≤ 8) (hd : DiceAt B w g) : Calls Try.prog 13 #[.pointer (some ⟨g, 0, none⟩), .int .i64 (keys : Int)] w fun e w' => SomeThr w.heap.size keys e w' ∧ w.grownBy w' (some g) ∧ DiceAt B w' g := by
  have hgl := hd.lt
  have a0 := Arr.new w [.int .i64 0, .slice none 0 0] 25
  have g0 : w.grownBy (w.alloc (.cells #[.int .i64 0, .slice none 0 0] 25)) (some g) := galloc w _ _
  have d0 := hd.go ((Below.refl w.heap.size w).alloc (o := .cells #[.int .i64 0, .slice none 0 0] 25) (Nat.le_refl _))
  by_cases k0 : keys = 0
  · subst k0
    clear hd
    go_enter Try.func13, Try.ntmps13
    go_wp2
    refine ret_thr a0 rfl rfl rfl ⟨⟨0, [], none, 0, rfl, frss_nil _ _, by decide, by decide, by unfold in64; omega, rfl⟩, g0, d0⟩
  have k1 : 1 ≤ keys := by omega
  have k0i : ((keys : Int) == 0) = false := by simp; omega
  have N3 := Lib.hid (fun (wx : World) (h : DiceAt B wx g) => next_lit B g 3 3 rfl wx (by decide) (by decide) h)
  have NK := Lib.hid (fun (wx : World) (h : DiceAt B wx g) => next_any B g keys wx k1 (by omega) h)
  have N6 := Lib.hid (fun (wx : World) (h : DiceAt B wx g) => next_lit B g 6 6 rfl wx (by decide) (by decide) h)
  clear hd
  go_enter Try.func13, Try.ntmps13
  go_upto_region 3 with fail
  have HD0 := Lib.hid d0
  go_wp2_with (first
    | (go_at_call 11; (with_reducible refine (N3.out _ HD0.out).mono ?_); rintro e w3 ⟨⟨k3, hk3, rfl⟩, hg3, hd3⟩; have A3 := a0.kept hg3 (by intro e; cases e; omega); have G3 := gtrans g0 hg3)
    | (go_at_call 11; (with_reducible refine (NK.out _ hd3).mono ?_); rintro e w4 ⟨⟨q, hq, rfl⟩, hg4, hd4⟩; have A4 := A3.kept hg4 (by intro e; cases e; omega); have G4 := gtrans G3 hg4)
    | (refine wp_st rfl 25 (.tmp 4) (.tmp 17) rfl _ [.int .i64 (1 + (q : Int)), .slice none 0 0] rfl rfl A4 Try.infoth rfl rfl (one2v _ _ _ _) ?_))
  · have hA := A4.setRow [.int .i64 (1 + (q : Int)), .slice none 0 0]
    have hG := grown_row G4 w.heap.size (Nat.le_refl _) [.int .i64 (1 + (q : Int)), .slice none 0 0].toArray
    have hD := hd4.same (w' := w4.setRow w.heap.size [.int .i64 (1 + (q : Int)), .slice none 0 0].toArray) (fun j hj => setRow_other w4 w.heap.size j _ (by omega))
    exact ret_thr hA rfl rfl rfl ⟨⟨1 + (q : Int), [], none, 0, rfl, frss_nil _ _, validB_num (by omega) (by omega) hk, by decide, by unfold in64; omega, rfl⟩, hG, hD⟩
  · clear a0 g0 d0 HD0 hg3
    obtain ⟨i0, hi, hz0, hz1, hz2⟩ := info_parts Try.infoF
    have HI := Lib.hid (And.intro hi (And.intro hz0 (And.intro hz1 hz2)))
    clear hi hz0 hz1 hz2
    have hgC : w.heap.size < w3.heap.size := A3.lt
    rename ¬ 0 < k3 => hk30
    rw [show decide (0 < k3) = false from decide_eq_false hk30]
    clear hk30
    obtain ⟨C, hC⟩ : ∃ C, C = w3.heap.size := ⟨_, rfl⟩
    rw [← hC] at hgC
    have hCw : C ≤ w3.heap.size := by omega
    clear hC
    go_loopw [5, 19] (fun v i wr => ∃ (t : Nat) (l : List FR) (vo : Option Addr) (vc : Nat), t ≤ keys ∧ i = .int .i64 t ∧ l.length = t ∧ Hid (∀ f ∈ l, wtB f = true) ∧ v = .slice vo t vc ∧ wr.ownsRow C 39 2 (.slice vo t vc) t (cellsF l) ∧ Arr wr w.heap.size 25 [.int .i64 0, .slice none 0 0] ∧ w.grownBy wr (some g) ∧ DiceAt B wr g ∧ C ≤ wr.heap.size) (fun _ i _ => keys - (intOf i).toNat)
    case atStart => exact ⟨0, [], none, 0, Nat.zero_le _, rfl, rfl, Lib.hid (fun f hf => by cases hf), rfl, World.ownsRow_nil _ _ _ _, A3, G3, hd3, hCw⟩
    case round =>
      clear A3 G3 hd3
      obtain ⟨t, l, vo, vc, ht, rfl, hlt, hwt, rfl, hO, hA, hG, hD, hCr⟩ := hrel
      by_cases hlk : t < keys
      · have hS : Arr (wr.alloc (.cells #[.int .i64 1, .int .i64 2, .int .i64 1, .int .i64 3, .int .i64 2, .int .i64 3, .int .i64 1, .int .i64 1, .int .i64 0, .int .i64 1, .int .i64 99, .int .i64 100] 39)) wr.heap.size 39 (cellsF six) := Arr.new wr (cellsF six) 39
        have hD1 : DiceAt B (wr.alloc (.cells #[.int .i64 1, .int .i64 2, .int .i64 1, .int .i64 3, .int .i64 2, .int .i64 3, .int .i64 1, .int .i64 1, .int .i64 0, .int .i64 1, .int .i64 99, .int .i64 100] 39)) g := hD.go ((Below.refl wr.heap.size wr).alloc (Nat.le_refl _) _)
        have HO1 := Lib.hid (hO.alloc (.cells #[.int .i64 1, .int .i64 2, .int .i64 1, .int .i64 3, .int .i64 2, .int .i64 3, .int .i64 1, .int .i64 1, .int .i64 0, .int .i64 1, .int .i64 99, .int .i64 100] 39))
        have HA1 := Lib.hid (hA.alloc (.cells #[.int .i64 1, .int .i64 2, .int .i64 1, .int .i64 3, .int .i64 2, .int .i64 3, .int .i64 1, .int .i64 1, .int .i64 0, .int .i64 1, .int .i64 99, .int .i64 100] 39))
        have HG1 := Lib.hid (gtrans hG (galloc wr (.cells #[.int .i64 1, .int .i64 2, .int .i64 1, .int .i64 3, .int .i64 2, .int .i64 3, .int .i64 1, .int .i64 1, .int .i64 0, .int .i64 1, .int .i64 99, .int .i64 100] 39) (some g)))
        have HS := Lib.hid hS
        have HD1 := Lib.hid hD1
        have hsz1 : (wr.alloc (.cells #[.int .i64 1, .int .i64 2, .int .i64 1, .int .i64 3, .int .i64 2, .int .i64 3, .int .i64 1, .int .i64 1, .int .i64 0, .int .i64 1, .int .i64 99, .int .i64 100] 39)).heap.size = wr.heap.size + 1 := by simp
        have hgb : wr.heap.size ≠ g := by have := hD.lt; omega
        have hkb : keys ≤ 8 := hk
        clear hO hA hG hD hS hD1
        go_wp2_with (first
          | (go_at_call 11; (with_reducible refine (N6.out _ HD1.out).mono ?_); rintro e w5 ⟨⟨q, hq, rfl⟩, hg5, hd5⟩
             obtain ⟨f, hf⟩ : ∃ f, six[q]? = some f := ⟨_, List.getElem?_eq_getElem hq⟩
             have hS5 := HS.out.kept hg5 (by intro e; cases e; exact hgb rfl)
             have c1 := hS5.cellAt (cellsF_get six q f hf).1
             have c2 := hS5.cellAt (cellsF_get six q f hf).2
             have hA5 := HA1.out.kept hg5 (by intro e; cases e; omega)
             have hO5 := owns_grown HO1.out hg5 (by omega)
             have hG5 := gtrans HG1.out hg5
             have hwf := six_wt f (List.mem_of_getElem? hf)
             have hqi : (q : Int) < 6 := by omega
             have hs5 := hg5.size
             have HO5 := Lib.hid hO5
             clear hO5 hS5)
          | (at_builtin; refine wpList_append_own _ rfl (.tmp 21) (.tmp 33) 26 rfl C 39 i0 (.agg #[.int .i64 0, .int .i64 0]) 2 16 Try.underlying26 HI.out.1 HI.out.2.1 HI.out.2.2.1 HI.out.2.2.2 rfl (by decide) _ t _ rfl (HO5.out.alloc _) ⟨w5.heap.size, 0, none⟩ 1 1 [.int .i64 f.1, .int .i64 f.2] rfl rfl (cells_new _ _ _ _ rfl) (one2 _ _) (by unfold maxLen; omega) (by omega) (by simp; omega) ?_; intro v2 w6 hO6 hg6 _))
        obtain ⟨a2, c2, rfl, -, -⟩ := own_form2 hO6
        rw [← cellsF_snoc] at hO6
        have hOx := HO5.out.alloc (.cells #[.int .i64 f.1, .int .i64 f.2] 39)
        have hG6 := grown_own (gtrans hG5 (galloc w5 (.cells #[.int .i64 f.1, .int .i64 f.2] 39) (some g))) hOx hg6 (by omega)
        have hd5' : DiceAt B (w5.alloc (.cells #[.int .i64 f.1, .int .i64 f.2] 39)) g := hd5.go ((Below.refl w5.heap.size w5).alloc (Nat.le_refl _) _)
        have hd6 := hd5'.same (w' := w6) (fun j hj => own_kept hOx hg6 j (by omega) (by have := hd5'.lt; omega))
        have hA5' := hA5.alloc (.cells #[.int .i64 f.1, .int .i64 f.2] 39)
        have hA6 := hA5'.of_block (own_kept hOx hg6 w.heap.size (by omega) hA5'.lt)
        have hwt6 : Hid (∀ x ∈ l ++ [f], wtB x = true) := Lib.hid (fun x hx => by
          rcases List.mem_append.1 hx with h | h
          · exact hwt.out x h
          · rw [List.mem_singleton] at h; rw [h]; exact hwf)
        have hs6 : C ≤ w6.heap.size := by have h1 := hg6.size; have h2 : (w5.alloc (.cells #[.int .i64 f.1, .int .i64 f.2] 39)).heap.size = w5.heap.size + 1 := by simp
                                          omega
        clear hg6 hOx hd5' hA5'
        have hrl : (l ++ [f]).length = t + 1 := by simp [hlt]
        have HR := Lib.hid (show ∃ (t' : Nat) (l : List FR) (vo : Option Addr) (vc : Nat), t' ≤ keys ∧ Value.int .i64 ((t : Int) + 1) = .int .i64 t' ∧ l.length = t' ∧ Hid (∀ f ∈ l, wtB f = true) ∧ Value.slice a2 (t + 1) c2 = .slice vo t' vc ∧ w6.ownsRow C 39 2 (.slice vo t' vc) t' (cellsF l) ∧ Arr w6 w.heap.size 25 [.int .i64 0, .slice none 0 0] ∧ w.grownBy w6 (some g) ∧ DiceAt B w6 g ∧ C ≤ w6.heap.size from ⟨t + 1, l ++ [f], a2, c2, by omega, by go_num, hrl, hwt6, rfl, hO6, hA6, hG6, hd6, hs6⟩)
        clear hO6 hA6 hG6 hd6 hwt6 hA5 hG5 hd5
        exact ⟨HR.out, by simp [intOf]; omega⟩
      · obtain rfl : t = keys := by omega
        obtain ⟨g1, cap, hv1, hg1, hn1, hm1, hRow⟩ := own_row2 hO k1
        obtain ⟨rfl, rfl⟩ : vo = some ⟨g1, 0, none⟩ ∧ vc = cap := by cases hv1; exact ⟨rfl, rfl⟩
        have hgg : g ≠ g1 := by omega
        clear hO hv1 N3 N6
        have N3 := Lib.hid (fun (wx : World) (h : DiceAt B wx g) => next_lit B g 3 3 rfl wx (by decide) (by decide) h)
        have HRow := Lib.hid hRow
        have HA := Lib.hid hA
        have HG := Lib.hid hG
        have HD := Lib.hid hD
        have hs1 := hRow.lt
        clear hRow hA hG hD
        go_upto_region 11 with (go_at_call 11; (with_reducible refine (NK.out _ HD.out).mono ?_); rintro e w5 ⟨⟨q, hq, rfl⟩, hg5, hd5⟩; have hR5 := HRow.out.kept hg5 (by intro e; cases e; exact hgg rfl); have t1 := hR5.there (j := q * 2) (by omega); have t2 := (hR5.store (q * 2) (.int .i64 1)).there (j := q * 2 + 1) (by omega); obtain ⟨x1, hx1⟩ := Option.isSome_iff_exists.1 t1.1; obtain ⟨x2, hx2⟩ := Option.isSome_iff_exists.1 t2.1; have f1 := t1.2; have f2 := t2.2; have hqi : (q : Int) < (t : Int) := by omega)
        have hq' := hq
        obtain ⟨L, hL⟩ : ∃ L, L = l.set q (1, 1) := ⟨_, rfl⟩
        have hLt : L.length = t := by rw [hL, List.length_set, hlt]
        have HWL : Hid (∀ f ∈ L, wtB f = true) := Lib.hid (fun f hf => by
          rw [hL] at hf
          rcases List.mem_or_eq_of_mem_set hf with h | h
          · exact hwt.out f h
          · rw [h]; decide)
        have HQ : Hid (L[q]? = some (1, 1)) := Lib.hid (by rw [hL, List.getElem?_set_self (by omega)])
        have hRa := (hR5.store (q * 2) (.int .i64 1)).store (q * 2 + 1) (.int .i64 1)
        rw [cellsF_set l q 1 1, ← hL] at hRa
        have hAa := ((HA.out.kept hg5 (by intro e; cases e; omega)).beside ⟨g1, q * 2, none⟩ (.int .i64 1) (by show w.heap.size ≠ g1; omega)).beside ⟨g1, q * 2 + 1, none⟩ (.int .i64 1) (by show w.heap.size ≠ g1; omega)
        have hGa := grown_setNew (grown_setNew (gtrans HG.out hg5) (k := g1) (by omega) (q * 2) (.int .i64 1)) (k := g1) (by omega) (q * 2 + 1) (.int .i64 1)
        have hDa := (hd5.setNew (k := g1) (by omega) (q * 2) (.int .i64 1)).setNew (k := g1) (by omega) (q * 2 + 1) (.int .i64 1)
        generalize ((w5.setCell ⟨g1, q * 2, none⟩ (.int .i64 1)).setCell ⟨g1, q * 2 + 1, none⟩ (.int .i64 1)) = wa at hRa hAa hGa hDa ⊢
        obtain ⟨q0, hq0⟩ : ∃ q0, q0 = q := ⟨_, rfl⟩
        rw [← hq0] at HQ
        have hqt : q0 < t := by omega
        clear hq0 hL hx1 hx2 f1 f2 hR5 HRow HA HG HD hg5 hd5 hlt hwt t1 t2
        by_cases ht1 : 1 < t
        · have ht1i : (1 : Int) < (t : Int) := by omega
          obtain ⟨u, hu⟩ : ∃ u, u = t - 1 := ⟨_, rfl⟩
          have ui : (t : Int) - 1 = (u : Int) := by omega
          have ui2 : (u : Int) < (t : Int) := by omega
          have hu1 : 1 ≤ u := by omega
          have hut : u < t := by omega
          have hHU : Hid (u + 1 = t) := Lib.hid (by omega)
          have NU := Lib.hid (fun (wx : World) (h : DiceAt B wx g) => next_any B g u wx hu1 (by omega) h)
          have HRa := Lib.hid hRa
          have HAa := Lib.hid hAa
          have HGa := Lib.hid hGa
          have HDa := Lib.hid hDa
          clear hRa hAa hGa hDa hu
          go_upto_region 12 with (first
            | (go_at_call 11; (with_reducible refine (N3.out _ HDa.out).mono ?_); rintro e wb ⟨⟨kz, hkz, rfl⟩, hgc, hdc⟩; have hRc := HRa.out.kept hgc (by intro e; cases e; exact hgg rfl); have HRb := Lib.hid hRc; have HAb := Lib.hid (HAa.out.kept hgc (by intro e; cases e; omega)); have HGb := Lib.hid (gtrans HGa.out hgc); have HDb := Lib.hid hdc; have r1 := hRc.store 0 (.int .i64 1); have r2 := r1.store 1 (.int .i64 1); have r3 := r2.store (u * 2) (.int .i64 1); have t1 := hRc.there (j := 0) (by omega); have t2 := r1.there (j := 1) (by omega); have t3 := r2.there (j := u * 2) (by omega); have t4 := r3.there (j := u * 2 + 1) (by omega); obtain ⟨x1, hx1⟩ := Option.isSome_iff_exists.1 t1.1; obtain ⟨x2, hx2⟩ := Option.isSome_iff_exists.1 t2.1; obtain ⟨x3, hx3⟩ := Option.isSome_iff_exists.1 t3.1; obtain ⟨x4, hx4⟩ := Option.isSome_iff_exists.1 t4.1; have f1 := t1.2; have f2 := t2.2; have f3 := t3.2; have f4 := t4.2; have HDs := Lib.hid ((((hdc.setNew (k := g1) (by omega) 0 (.int .i64 1)).setNew (k := g1) (by omega) 1 (.int .i64 1)).setNew (k := g1) (by omega) (u * 2) (.int .i64 1)).setNew (k := g1) (by omega) (u * 2 + 1) (.int .i64 1)))
            | (refine wp_st rfl 25 (.tmp 4) (.tmp 73) rfl _ [.int .i64 0, .slice (some ⟨wb.heap.size, 0, none⟩) 1 1] rfl rfl (HAb.out.alloc _) Try.infoth rfl rfl (one2v _ _ _ _) ?_))
          · go_upto_region 13 with fail
            obtain ⟨M, hM⟩ : ∃ M, M = (L.set 0 (1, 1)).set u (1, 1) := ⟨_, rfl⟩
            have hMt : M.length = t := by rw [hM, List.length_set, List.length_set, hLt]
            have hWM : ∀ f ∈ M, wtB f = true := fun f hf => by
              rw [hM] at hf
              rcases List.mem_or_eq_of_mem_set hf with h | h
              · rcases List.mem_or_eq_of_mem_set h with h | h
                · exact HWL.out f h
                · rw [h]; decide
              · rw [h]; decide
            have hM0 : M[0]? = some (1, 1) := by rw [hM, List.getElem?_set_ne (by omega), List.getElem?_set_self (by omega)]
            have hMu : M[u]? = some (1, 1) := by rw [hM, List.getElem?_set_self (by rw [List.length_set]; omega)]
            have r4 := r3.store (u * 2 + 1) (.int .i64 1)
            have e0 := cellsF_set L 0 1 1
            rw [Nat.zero_mul, Nat.zero_add] at e0
            rw [e0, cellsF_set _ u 1 1, ← hM] at r4
            have hA4 : Arr ((((wb.setCell ⟨g1, 0, none⟩ (.int .i64 1)).setCell ⟨g1, 1, none⟩ (.int .i64 1)).setCell ⟨g1, u * 2, none⟩ (.int .i64 1)).setCell ⟨g1, u * 2 + 1, none⟩ (.int .i64 1)) w.heap.size 25 [.int .i64 0, .slice none 0 0] := (((HAb.out.beside ⟨g1, 0, none⟩ (.int .i64 1) (by show w.heap.size ≠ g1; omega)).beside ⟨g1, 1, none⟩ (.int .i64 1) (by show w.heap.size ≠ g1; omega)).beside ⟨g1, u * 2, none⟩ (.int .i64 1) (by show w.heap.size ≠ g1; omega)).beside ⟨g1, u * 2 + 1, none⟩ (.int .i64 1) (by show w.heap.size ≠ g1; omega)
            have hG4 : w.grownBy ((((wb.setCell ⟨g1, 0, none⟩ (.int .i64 1)).setCell ⟨g1, 1, none⟩ (.int .i64 1)).setCell ⟨g1, u * 2, none⟩ (.int .i64 1)).setCell ⟨g1, u * 2 + 1, none⟩ (.int .i64 1)) (some g) := grown_setNew (grown_setNew (grown_setNew (grown_setNew HGb.out (k := g1) (by omega) 0 (.int .i64 1)) (k := g1) (by omega) 1 (.int .i64 1)) (k := g1) (by omega) (u * 2) (.int .i64 1)) (k := g1) (by omega) (u * 2 + 1) (.int .i64 1)
            have hD4 : DiceAt B ((((wb.setCell ⟨g1, 0, none⟩ (.int .i64 1)).setCell ⟨g1, 1, none⟩ (.int .i64 1)).setCell ⟨g1, u * 2, none⟩ (.int .i64 1)).setCell ⟨g1, u * 2 + 1, none⟩ (.int .i64 1)) g := HDs.out
            clear hM e0 r1 r2 r3 t1 t2 t3 t4 f1 f2 f3 f4 hx1 hx2 hx3 hx4 hRc hgc hdc HDs HRb HAb HGb HDb HRa HAa HGa HDa
            generalize ((((wb.setCell ⟨g1, 0, none⟩ (.int .i64 1)).setCell ⟨g1, 1, none⟩ (.int .i64 1)).setCell ⟨g1, u * 2, none⟩ (.int .i64 1)).setCell ⟨g1, u * 2 + 1, none⟩ (.int .i64 1)) = ws at r4 hA4 hG4 hD4 ⊢
            go_upto_region 14 with (go_at_call 11; (with_reducible refine (NU.out _ hD4).mono ?_); rintro e wd ⟨⟨kk, hkk, rfl⟩, hgd, hdd⟩)
            have hR5 := r4.kept hgd (by intro e; cases e; exact hgg rfl)
            have hA5 := hA4.kept hgd (by intro e; cases e; omega)
            have hG5 := gtrans hG4 hgd
            obtain ⟨m, hm⟩ : ∃ m, m = 1 + kk := ⟨_, rfl⟩
            have hmi : (1 : Int) + (kk : Int) = (m : Int) := by omega
            have hm1 : 1 ≤ m := by omega
            have hmu : m ≤ u := by omega
            try rw [hmi]
            clear hm hgd r4 hA4 hG4 hD4
            have mt : (m : Int) ≤ (t : Int) := by omega
            have mv : (m : Int) ≤ (vc : Int) := by omega
            have mt' : m ≤ t := by omega
            have mv' : m ≤ vc := by omega
            refine wp_region_plan (fun w' => True) [] (.take 0 (.take 1 (.take 2 (.take 3 (.take 4 (.take 5 (.take 6 (.ask 7 false (.take 8 (.ask 9 false .stop .stop)) .stop)))))))) (by kernel_rfl) (by kernel_rfl) (fun _ d _ _ _ h => by cases d <;> exact h) trivial ?_
            have hR6 := hR5.drew
            have hA6 := hA5.drew
            have hG6 : w.grownBy wd.drew (some g) := grown_drewN hG5 1
            have hD6 : DiceAt B wd.drew g := hdd
            clear hR5 hA5 hG5 hdd
            generalize wd.drew = wf at hR6 hA6 hG6 hD6 ⊢
            refine take_any _ ?_ rfl rfl ?_ (fun K hK => ?_); rotate_left; (intro w0; go_simp; (try rfl)); (go_simp; refine hK _ ?_; clear hK K)
            refine take_any _ ?_ rfl rfl ?_ (fun K hK => ?_); rotate_left; (intro w0; go_simp; (try rfl)); (go_simp; refine hK _ ?_; clear hK K)
            refine take_any _ ?_ rfl rfl ?_ (fun K hK => ?_); rotate_left; (intro w0; go_simp; (try rfl)); (go_simp; refine hK _ ?_; clear hK K)
            refine take_any _ ?_ rfl rfl ?_ (fun K hK => ?_); rotate_left; (intro w0; go_simp; (try rfl)); (go_simp; refine hK _ ?_; clear hK K)
            refine take_any _ ?_ rfl rfl ?_ (fun K hK => ?_); rotate_left; (intro w0; go_simp; (try rfl)); (go_simp; refine hK _ ?_; clear hK K)
            refine take_any _ ?_ rfl rfl ?_ (fun K hK => ?_); rotate_left; (intro w0; go_simp; (try rfl)); (go_simp; refine hK _ ?_; clear hK K)
            refine take_any _ ?_ rfl rfl ?_ (fun K hK => ?_); rotate_left; (intro w0; go_simp; (try rfl)); (go_simp; refine hK _ ?_; clear hK K)
            refine ask_late _ rfl trivial ?_; go_wp2_with fail; refine Seg.mk ?_
            refine take_any _ ?_ rfl rfl ?_ (fun K hK => ?_); rotate_left; (intro w0; go_simp; (try rfl)); (go_simp; refine hK _ ?_; clear hK K)
            refine ask_last _ rfl trivial ?_
            have hAall := hA6.alloc (.cells #[.slice (some ⟨g1, 0, none⟩) m m, .slice (some ⟨g1, m * 2, none⟩) (t - m) (vc - m)] 26)
            have hGall := gtrans hG6 (galloc wf (.cells #[.slice (some ⟨g1, 0, none⟩) m m, .slice (some ⟨g1, m * 2, none⟩) (t - m) (vc - m)] 26) (some g))
            have hDall : DiceAt B (wf.alloc (.cells #[.slice (some ⟨g1, 0, none⟩) m m, .slice (some ⟨g1, m * 2, none⟩) (t - m) (vc - m)] 26)) g := hD6.go ((Below.refl wf.heap.size wf).alloc (Nat.le_refl _) _)
            have hSall := Arr.new wf [.slice (some ⟨g1, 0, none⟩) m m, .slice (some ⟨g1, m * 2, none⟩) (t - m) (vc - m)] 26
            have hRall := hR6.alloc (.cells #[.slice (some ⟨g1, 0, none⟩) m m, .slice (some ⟨g1, m * 2, none⟩) (t - m) (vc - m)] 26)
            have hg1b := hR6.lt
            have hw0b := hA6.lt
            go_wp2_with (refine wp_st rfl 25 (.tmp 4) (.tmp 70) rfl _ [.int .i64 0, .slice (some ⟨wf.heap.size, 0, none⟩) 2 2] rfl rfl hAall Try.infoth rfl rfl (one2v _ _ _ _) ?_)
            have hAz := hAall.setRow [.int .i64 0, .slice (some ⟨wf.heap.size, 0, none⟩) 2 2]
            refine ret_thr hAz rfl rfl rfl ⟨⟨0, [M.take m, M.drop m], some ⟨wf.heap.size, 0, none⟩, 2, rfl, ?_, ?_, by simp, by unfold in64; omega, rfl⟩, grown_row hGall w.heap.size (Nat.le_refl _) _, hDall.same (fun j hj => setRow_other _ w.heap.size j _ (by omega))⟩
            · intro w' hs' hk'
              have hszr : ((wf.alloc (.cells #[.slice (some ⟨g1, 0, none⟩) m m, .slice (some ⟨g1, m * 2, none⟩) (t - m) (vc - m)] 26)).setRow w.heap.size [.int .i64 0, .slice (some ⟨wf.heap.size, 0, none⟩) 2 2].toArray).heap.size = wf.heap.size + 1 := by simp
              have hR' : Row w' g1 39 (vc * 2) (cellsF M) := hRall.of_block ((hk' g1 (by omega) (by rw [hszr]; omega)).trans (setRow_other _ w.heap.size g1 _ (by omega)))
              have hS' := hSall.of_block ((hk' wf.heap.size (by omega) (by rw [hszr]; omega)).trans (setRow_other _ w.heap.size wf.heap.size _ (by omega)))
              have hF1 := frs_sub (B := wf.heap.size + 1) hR' (by omega) 0 m m (by omega) (Nat.le_refl _) (by omega) hWM
              rw [List.drop_zero, Nat.zero_mul] at hF1
              have hF2 := frs_sub (B := wf.heap.size + 1) hR' (by omega) m (t - m) (vc - m) (by omega) (by omega) (by omega) hWM
              rw [List.take_of_length_le (by rw [List.length_drop]; omega)] at hF2
              refine ⟨_, 2, rfl, Nat.le_refl _, by unfold maxLen; omega, fun i x e => ?_⟩
              match i, e with
              | 0, e =>
                simp at e; subst e
                exact ⟨wf.heap.size, 0, _, rfl, by rw [hszr]; omega, hS'.cellAt rfl, by rw [hszr]; exact hF1⟩
              | 1, e =>
                simp at e; subst e
                exact ⟨wf.heap.size, 0, _, rfl, by rw [hszr]; omega, hS'.cellAt rfl, by rw [hszr]; exact hF2⟩
              | i + 2, e => simp at e
            · have hv := valid_two (a := M.take m) (b := M.drop m) (by rw [List.length_take, List.length_drop]; omega) (by rw [List.length_take]; omega) (by rw [List.length_drop]; omega) (fun f hf => hWM f (List.mem_of_mem_take hf)) (fun f hf => hWM f (List.mem_of_mem_drop hf)) 0 (u - m) (by rw [List.getElem?_take, if_pos (by omega)]; exact hM0) (by rw [List.getElem?_drop, show m + (u - m) = u by omega]; exact hMu)
              rw [List.length_take, List.length_drop, show min m M.length + (M.length - m) = t by omega] at hv
              exact hv
          · clear hx1 hx2 hx3 hx4 f1 f2 f3 f4 t1 t2 t3 t4 r1 r2 r3 hRc hgc hdc HDs
            have hAll := HAb.out.alloc (.cells #[.slice (some ⟨g1, 0, none⟩) t vc] 26)
            have hGall := gtrans HGb.out (galloc wb (.cells #[.slice (some ⟨g1, 0, none⟩) t vc] 26) (some g))
            have hDall : DiceAt B (wb.alloc (.cells #[.slice (some ⟨g1, 0, none⟩) t vc] 26)) g := HDb.out.go ((Below.refl wb.heap.size wb).alloc (Nat.le_refl _) _)
            have hSall := Arr.new wb [.slice (some ⟨g1, 0, none⟩) t vc] 26
            have hRall := HRb.out.alloc (.cells #[.slice (some ⟨g1, 0, none⟩) t vc] 26)
            have hsz : (wb.alloc (.cells #[.slice (some ⟨g1, 0, none⟩) t vc] 26)).heap.size = wb.heap.size + 1 := by simp
            have hg1b := HRb.out.lt
            have hw0b := HAb.out.lt
            have hAz := hAll.setRow [.int .i64 0, .slice (some ⟨wb.heap.size, 0, none⟩) 1 1]
            refine ret_thr hAz rfl rfl rfl ⟨⟨0, [L], some ⟨wb.heap.size, 0, none⟩, 1, rfl, ?_, ?_, by simp, by unfold in64; omega, rfl⟩, grown_row hGall w.heap.size (Nat.le_refl _) _, hDall.same (fun j hj => setRow_other _ w.heap.size j _ (by omega))⟩
            · intro w' hs' hk'
              have hszr : ((wb.alloc (.cells #[.slice (some ⟨g1, 0, none⟩) t vc] 26)).setRow w.heap.size [.int .i64 0, .slice (some ⟨wb.heap.size, 0, none⟩) 1 1].toArray).heap.size = wb.heap.size + 1 := by simp
              have hR' : Row w' g1 39 (vc * 2) (cellsF L) := hRall.of_block ((hk' g1 (by omega) (by rw [hszr]; omega)).trans (setRow_other _ w.heap.size g1 _ (by omega)))
              have hS' := hSall.of_block ((hk' wb.heap.size (by omega) (by rw [hszr]; omega)).trans (setRow_other _ w.heap.size wb.heap.size _ (by omega)))
              refine ⟨_, 1, rfl, Nat.le_refl _, by unfold maxLen; omega, fun i x e => ?_⟩
              obtain ⟨rfl, rfl⟩ : i = 0 ∧ x = L := by
                cases i with
                | zero => simp at e; exact ⟨rfl, e.symm⟩
                | succ i => simp at e
              refine ⟨wb.heap.size, 0, _, rfl, by rw [hszr]; omega, hS'.cellAt rfl, ?_⟩
              have hF := frs_sub (B := wb.heap.size + 1) hR' (by omega) 0 t vc (by omega) hn1 hm1 HWL.out
              rw [List.drop_zero, List.take_of_length_le (by omega), Nat.zero_mul] at hF
              rw [hszr]; exact hF
            · have hv := valid_one (l := L) (by omega) (by omega) HWL.out q0 HQ.out
              rw [hLt] at hv; exact hv
        · have ht1i : ¬ (1 : Int) < (t : Int) := by omega
          go_upto_region 15 with fail
          have HRb := Lib.hid hRa
          have HAb := Lib.hid hAa
          have HGb := Lib.hid hGa
          have HDb := Lib.hid hDa
          obtain ⟨wb, hwb⟩ : ∃ wb, wb = wa := ⟨_, rfl⟩
          rw [← hwb] at HRb HAb HGb HDb ⊢
          clear hRa hAa hGa hDa hwb
          have hAll := HAb.out.alloc (.cells #[.slice (some ⟨g1, 0, none⟩) t vc] 26)
          have hGall := gtrans HGb.out (galloc wb (.cells #[.slice (some ⟨g1, 0, none⟩) t vc] 26) (some g))
          have hDall : DiceAt B (wb.alloc (.cells #[.slice (some ⟨g1, 0, none⟩) t vc] 26)) g := HDb.out.go ((Below.refl wb.heap.size wb).alloc (Nat.le_refl _) _)
          have hSall := Arr.new wb [.slice (some ⟨g1, 0, none⟩) t vc] 26
          have hRall := HRb.out.alloc (.cells #[.slice (some ⟨g1, 0, none⟩) t vc] 26)
          have hsz : (wb.alloc (.cells #[.slice (some ⟨g1, 0, none⟩) t vc] 26)).heap.size = wb.heap.size + 1 := by simp
          have hg1b := HRb.out.lt
          have hw0b := HAb.out.lt
          go_wp2_with (refine wp_st rfl 25 (.tmp 4) (.tmp 73) rfl _ [.int .i64 0, .slice (some ⟨wb.heap.size, 0, none⟩) 1 1] rfl rfl hAll Try.infoth rfl rfl (one2v _ _ _ _) ?_)
          have hAz := hAll.setRow [.int .i64 0, .slice (some ⟨wb.heap.size, 0, none⟩) 1 1]
          refine ret_thr hAz rfl rfl rfl ⟨⟨0, [L], some ⟨wb.heap.size, 0, none⟩, 1, rfl, ?_, ?_, by simp, by unfold in64; omega, rfl⟩, grown_row hGall w.heap.size (Nat.le_refl _) _, hDall.same (fun j hj => setRow_other _ w.heap.size j _ (by omega))⟩
          · intro w' hs' hk'
            have hszr : ((wb.alloc (.cells #[.slice (some ⟨g1, 0, none⟩) t vc] 26)).setRow w.heap.size [.int .i64 0, .slice (some ⟨wb.heap.size, 0, none⟩) 1 1].toArray).heap.size = wb.heap.size + 1 := by simp
            have hR' : Row w' g1 39 (vc * 2) (cellsF L) := hRall.of_block ((hk' g1 (by omega) (by rw [hszr]; omega)).trans (setRow_other _ w.heap.size g1 _ (by omega)))
            have hS' := hSall.of_block ((hk' wb.heap.size (by omega) (by rw [hszr]; omega)).trans (setRow_other _ w.heap.size wb.heap.size _ (by omega)))
            refine ⟨_, 1, rfl, Nat.le_refl _, by unfold maxLen; omega, fun i x e => ?_⟩
            obtain ⟨rfl, rfl⟩ : i = 0 ∧ x = L := by
              cases i with
              | zero => simp at e; exact ⟨rfl, e.symm⟩
              | succ i => simp at e
            refine ⟨wb.heap.size, 0, _, rfl, by rw [hszr]; omega, hS'.cellAt rfl, ?_⟩
            have hF := frs_sub (B := wb.heap.size + 1) hR' (by omega) 0 t vc (by omega) hn1 hm1 HWL.out
            rw [List.drop_zero, List.take_of_length_le (by omega), Nat.zero_mul] at hF
            rw [hszr]; exact hF
          · have hv := valid_one (l := L) (by omega) (by omega) HWL.out q0 HQ.out
            rw [hLt] at hv; exact hv
end Go.Proofs.Ytefhhfpdponabaa
