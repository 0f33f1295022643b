/- Something of a threshold is changed: odd. -/
import Derived.Test.YtefhhfpdponabaaTva
namespace Go.Proofs.Ytefhhfpdponabaa
open Go.ChangeShapes Go.WideShapes Go.ChangeAt Go.RowKit
set_option linter.unusedVariables false
set_option linter.unusedSimpArgs false

/-- odd's memory: the dice at g, the threshold that came in and the one that goes out in two blocks behind all others. -/
structure Odd (w0 : World) (B g A : Nat) (num : Int) (o : Option Addr) (ws : List (List FR)) (w : World) : Prop where
  hd : DiceAt B w g
  gA : g < A
  AC : A ≤ w0.heap.size
  hk : FrssK (fun b => A ≤ b ∧ b < w0.heap.size) w (.slice o ws.length ws.length) ws
  hp : Arr w w0.heap.size 25 [.int .i64 num, .slice o ws.length ws.length]
  hr : Arr w (w0.heap.size + 1) 25 [.int .i64 0, .slice none 0 0]
  hg : w0.grownBy w (some g)
/-- What it leaves, ahead of the result. -/
structure OddE (w0 : World) (g : Nat) (num : Int) (v : Value) (ws : List (List FR)) (w : World) : Prop where
  hk : FrssK (fun b => b < w.heap.size ∧ b ≠ w0.heap.size ∧ b ≠ w0.heap.size + 1) w v ws
  hp : Arr w w0.heap.size 25 [.int .i64 num, v]
  hr : Arr w (w0.heap.size + 1) 25 [.int .i64 0, .slice none 0 0]
  hg : w0.grownBy w (some g)
section
variable {w0 w w1 : World} {B g A : Nat} {num : Int} {o : Option Addr} {v : Value} {ws ws' : List (List FR)}
theorem Odd.lt (h : Odd w0 B g A num o ws w) : w0.heap.size + 1 < w.heap.size := h.hr.lt
theorem Odd.below (h : Odd w0 B g A num o ws w) (hb : Below w.heap.size w w1) : Odd w0 B g A num o ws w1 :=
  have hl := h.lt
  ⟨h.hd.go hb, h.gA, h.AC, h.hk.to (fun b hb' => ⟨hb', hb.block b (by omega)⟩), h.hp.below hb (by omega), h.hr.below hb hl, gtrans h.hg (grown_of_below hb (Nat.le_refl _) _)⟩
theorem Odd.alloc (h : Odd w0 B g A num o ws w) (x : Obj) : Odd w0 B g A num o ws (w.alloc x) := h.below ((Below.refl w.heap.size w).alloc (Nat.le_refl _) x)
theorem Odd.drew (h : Odd w0 B g A num o ws w) : Odd w0 B g A num o ws w.drew := h.below (Below.refl w.heap.size w).drew
theorem Odd.dice (h : Odd w0 B g A num o ws w) (hg : w.grownBy w1 (some g)) (hd : DiceAt B w1 g) : Odd w0 B g A num o ws w1 :=
  have hl := h.lt
  have hgA := h.gA
  have hAC := h.AC
  ⟨hd, h.gA, h.AC, h.hk.to (fun b hb' => ⟨hb', hg.block b (by omega) (by intro e; cases e; omega)⟩), h.hp.kept hg (by intro e; cases e; omega), h.hr.kept hg (by intro e; cases e; omega), gtrans h.hg hg⟩
theorem Odd.c1 (h : Odd w0 B g A num o ws w) : w.cell? ⟨w0.heap.size, 1, none⟩ = some (.slice o ws.length ws.length) := h.hp.cellAt rfl
theorem Odd.same (h : Odd w0 B g A num o ws w) : OddE w0 g num (.slice o ws.length ws.length) ws w :=
  have hl := h.lt
  ⟨h.hk.to (fun b hb' => ⟨⟨by omega, by omega, by omega⟩, rfl⟩), h.hp, h.hr, h.hg⟩
theorem Odd.other (h : Odd w0 B g A num o ws w) (r : Int) : OddE w0 g r (.slice o ws.length ws.length) ws (w.setCell ⟨w0.heap.size, 0, none⟩ (.int .i64 r)) :=
  have hl := h.lt
  have hs : (w.setCell ⟨w0.heap.size, 0, none⟩ (.int .i64 r)).heap.size = w.heap.size := by simp
  ⟨h.hk.to (fun b hb' => ⟨⟨by rw [hs]; omega, by omega, by omega⟩, Below.heap_setCell w _ _ b (by show b ≠ w0.heap.size; omega)⟩), h.hp.store 0 (.int .i64 r), h.hr.beside _ _ (by show w0.heap.size + 1 ≠ w0.heap.size; omega), grown_setNew h.hg (Nat.le_refl _) 0 _⟩
theorem Odd.put (h : Odd w0 B g A num o ws w) (hk : FrssK (fun b => b < w.heap.size ∧ b ≠ w0.heap.size ∧ b ≠ w0.heap.size + 1) w v ws') : OddE w0 g num v ws' (w.setCell ⟨w0.heap.size, 1, none⟩ v) :=
  have hs : (w.setCell ⟨w0.heap.size, 1, none⟩ v).heap.size = w.heap.size := by simp
  ⟨hk.to (fun b hb' => ⟨by rw [hs]; exact hb', Below.heap_setCell w _ _ b (by show b ≠ w0.heap.size; omega)⟩), h.hp.store 1 v, h.hr.beside _ _ (by show w0.heap.size + 1 ≠ w0.heap.size; omega), grown_setNew h.hg (Nat.le_refl _) 1 _⟩
theorem OddE.done (h : OddE w0 g num v ws w) (ys : List Value) : FrssAt (w.setRow (w0.heap.size + 1) ys.toArray).heap.size (w.setRow (w0.heap.size + 1) ys.toArray) v ws ∧ w0.grownBy (w.setRow (w0.heap.size + 1) ys.toArray) (some g) := by
  refine ⟨?_, grown_row h.hg _ (by omega) _⟩
  have hs : (w.setRow (w0.heap.size + 1) ys.toArray).heap.size = w.heap.size := by simp
  rw [hs]
  exact (h.hk.to (K' := fun b => b < w.heap.size) (fun b hb => ⟨hb.1, setRow_other _ (w0.heap.size + 1) b _ hb.2.2⟩)).at fun b hb => hb
theorem FrssK.form {K : Nat → Prop} (h : FrssK K w v ws) : ∃ ao cap, v = .slice ao ws.length cap := by
  obtain ⟨ao, cap, h1, -⟩ := h
  exact ⟨ao, cap, h1⟩
end
theorem frsK_one {K : Nat → Prop} {w : World} {g : Nat} {T : TypeId} {a b : Int} (h : Arr w g T [.int .i64 a, .int .i64 b]) (hK : K g) (ha : in64 a) (hb : in64 b) : FrsK K w (.slice (some ⟨g, 0, none⟩) 1 1) [(a, b)] :=
  ⟨_, 1, rfl, Nat.le_refl _, by unfold maxLen; omega, fun f hf => by simp at hf; subst hf; exact ⟨ha, hb⟩, fun i f e => by
    match i, e with
    | 0, e => simp at e; subst e; exact ⟨g, 0, rfl, hK, h.cellAt rfl, h.cellAt rfl⟩
    | i + 1, e => simp at e⟩
theorem frsK_two {K : Nat → Prop} {w : World} {g : Nat} {T : TypeId} {a b c d : Int} (h : Arr w g T [.int .i64 a, .int .i64 b, .int .i64 c, .int .i64 d]) (hK : K g) (ha : in64 a) (hb : in64 b) (hc : in64 c) (hd : in64 d) : FrsK K w (.slice (some ⟨g, 0, none⟩) 2 2) [(a, b), (c, d)] :=
  ⟨_, 2, rfl, Nat.le_refl _, by unfold maxLen; omega, fun f hf => by simp at hf; rcases hf with rfl | rfl <;> first | exact ⟨ha, hb⟩ | exact ⟨hc, hd⟩, fun i f e => by
    match i, e with
    | 0, e => simp at e; subst e; exact ⟨g, 0, rfl, hK, h.cellAt rfl, h.cellAt rfl⟩
    | 1, e => simp at e; subst e; exact ⟨g, 0, rfl, hK, h.cellAt rfl, h.cellAt rfl⟩
    | i + 2, e => simp at e⟩
theorem frsK_nil (K : Nat → Prop) (w : World) : FrsK K w (.slice none 0 0) [] := ⟨none, 0, rfl, Nat.le_refl _, Nat.zero_le _, (fun f hf => absurd hf List.not_mem_nil), (fun i f e => by cases e)⟩
/-- What comes of it: the lists, or one more, of at most two. -/
def OddTo (ws : List (List FR)) (e : Ending) (w : World) : Prop := ∃ (num : Int) (ws' : List (List FR)) (v : Value), e = .returned (.agg #[.int .i64 num, v]) ∧ FrssAt w.heap.size w v ws' ∧ in64 num ∧ (ws' = ws ∨ ∃ l, ws' = ws ++ [l] ∧ l.length ≤ 2)
theorem hundred (k : Nat) (hk : k < 5) : ∃ z : Int, [Value.int .i64 100, .int .i64 101, .int .i64 1, .int .i64 0, .int .i64 (-1)][k]? = some (.int .i64 z) ∧ in64 z := by
  match k, hk with
  | 0, _ => exact ⟨100, rfl, by unfold in64; omega⟩
  | 1, _ => exact ⟨101, rfl, by unfold in64; omega⟩
  | 2, _ => exact ⟨1, rfl, by unfold in64; omega⟩
  | 3, _ => exact ⟨0, rfl, by unfold in64; omega⟩
  | 4, _ => exact ⟨-1, rfl, by unfold in64; omega⟩
set_option maxRecDepth 100000 in
theorem odd_any (B g A : Nat) (num : Int) (o : Option Addr) (ws : List (List FR)) (w : World) (hd : DiceAt B w g) (hgA : g < A) (hA : A ≤ w.heap.size) (hk : FrssK (fun b => A ≤ b ∧ b < w.heap.size) w (.slice o ws.length ws.length) ws) (hws : ws.length ≤ 2) (h64 : in64 num) : Calls Try.prog 12 #[.pointer (some ⟨g, 0, none⟩), .agg #[.int .i64 num, .slice o ws.length ws.length]] w fun e w' => OddTo ws e w' ∧ w.grownBy w' (some g) := by
  have N8 := Lib.hid (fun (wx : World) (h : DiceAt B wx g) => next_lit B g 8 8 rfl wx (by decide) (by decide) h)
  have N11 := Lib.hid (fun (wx : World) (h : DiceAt B wx g) => next_lit B g 11 11 rfl wx (by decide) (by decide) h)
  have N3 := Lib.hid (fun (wx : World) (h : DiceAt B wx g) => next_lit B g 3 3 rfl wx (by decide) (by decide) h)
  have N5 := Lib.hid (fun (wx : World) (h : DiceAt B wx g) => next_lit B g 5 5 rfl wx (by decide) (by decide) h)
  have wb : ws.length ≤ 1000000 := by omega
  have hO0 : Odd w B g A num o ws ((w.alloc (.cells #[.int .i64 num, .slice o ws.length ws.length] 25)).alloc (.cells #[.int .i64 0, .slice none 0 0] 25)) :=
    have b1 := (Below.refl w.heap.size w).alloc (o := .cells #[.int .i64 num, .slice o ws.length ws.length] 25) (Nat.le_refl _)
    have b2 := b1.alloc (o := .cells #[.int .i64 0, .slice none 0 0] 25) b1.size
    ⟨hd.go b2, hgA, hA, hk.to (fun b hb => ⟨hb, b2.block b (by omega)⟩), (Arr.new w [.int .i64 num, .slice o ws.length ws.length] 25).alloc _, Arr.new2 w _ [.int .i64 0, .slice none 0 0] 25, grown_of_below b2 (Nat.le_refl _) _⟩
  have HO0 := Lib.hid hO0
  clear hO0 hd hk
  go_enter Try.func12, Try.ntmps12
  go_upto_region 2 with (go_at_call 11; (with_reducible refine (N8.out _ HO0.out.hd).mono ?_); rintro e w2 ⟨⟨k, hk8, rfl⟩, hg2, hd2⟩)
  have HO := Lib.hid (HO0.out.dice hg2 hd2)
  have hz : (k : Int) = 0 ∨ (k : Int) = 1 ∨ (k : Int) = 2 ∨ (k : Int) = 3 ∨ (k : Int) = 4 ∨ 5 ≤ (k : Int) := by omega
  clear hg2 hd2 HO0 N8
  generalize (k : Int) = z at hz ⊢
  clear hk8
  rcases hz with rfl | rfl | rfl | rfl | rfl | hz
  · go_upto_region 12 with (go_at_call 11; (with_reducible refine (N11.out _ HO.out.hd).mono ?_); rintro e w3 ⟨⟨r, hr, rfl⟩, hg3, hd3⟩; have HO3 := Lib.hid (HO.out.dice hg3 hd3); have x0 := HO3.out.hp.cellAt (j := 0) rfl; have f0 := HO3.out.hp.free 0)
    have hE := HO3.out.other ((r : Int) - 1)
    clear x0 f0 hg3 hd3
    generalize w3.setCell ⟨w.heap.size, 0, none⟩ (.int .i64 ((r : Int) - 1)) = wz at hE ⊢
    have HE := Lib.hid hE
    clear hE
    have y0 := HE.out.hp.cellAt (j := 0) rfl
    have y1 := HE.out.hp.cellAt (j := 1) rfl
    go_wp2_with (refine wp_st rfl 25 (.tmp 4) (.tmp 58) rfl _ [.int .i64 ((r : Int) - 1), .slice o ws.length ws.length] rfl rfl HE.out.hr Try.infoth rfl rfl (one2v _ _ _ _) ?_)
    exact ret_thr (HE.out.hr.setRow [.int .i64 ((r : Int) - 1), .slice o ws.length ws.length]) rfl rfl rfl ⟨⟨_, ws, _, rfl, (HE.out.done _).1, (by unfold in64; omega), .inl rfl⟩, (HE.out.done _).2⟩
  · have x1 := HO.out.c1
    have HO4 := Lib.hid (HO.out.alloc (.cells #[.slice none 0 0] 26))
    have HN4 := Lib.hid (Arr.new w2 [.slice none 0 0] 26)
    go_upto_region 12 with (at_builtin; refine wpList_append_full rfl (.tmp 16) (.tmp 17) rfl (fun b => b < (w2.alloc (.cells #[.slice none 0 0] 26)).heap.size ∧ b ≠ w.heap.size ∧ b ≠ w.heap.size + 1) (fun b => b < (w2.alloc (.cells #[.slice none 0 0] 26)).heap.size + 1 ∧ b ≠ w.heap.size ∧ b ≠ w.heap.size + 1) o ws.length ws rfl (HO4.out.hk.to (fun b hb => ⟨⟨by have := HO4.out.lt; omega, by omega, by omega⟩, rfl⟩)) (fun b hb => ⟨⟨by omega, hb.2⟩, hb.1⟩) (by have := HO4.out.lt; exact ⟨by omega, by omega, by omega⟩) wb ⟨w2.heap.size, 0, none⟩ 1 (.slice none 0 0) [] rfl (HN4.out.cellAt rfl) (frsK_nil _ _) (w2.heap.size + 1) (by simp) ?_; intro cap w5 hb5 hs5 hf5; have HO5 := Lib.hid (HO4.out.below hb5); rw [← hs5] at hf5; have HF5 := Lib.hid hf5; clear hb5 hs5 hf5; have x1 := HO5.out.c1; have f1 := HO5.out.hp.free 1)
    have hE := HO5.out.put HF5.out
    clear x1 f1
    generalize w5.setCell ⟨w.heap.size, 1, none⟩ (.slice (some ⟨w2.heap.size + 1, 0, none⟩) (ws.length + 1) cap) = wz at hE ⊢
    have HE := Lib.hid hE
    clear hE
    have y0 := HE.out.hp.cellAt (j := 0) rfl
    have y1 := HE.out.hp.cellAt (j := 1) rfl
    go_wp2_with (refine wp_st rfl 25 (.tmp 4) (.tmp 58) rfl _ [.int .i64 (num), .slice (some ⟨w2.heap.size + 1, 0, none⟩) (ws.length + 1) cap] rfl rfl HE.out.hr Try.infoth rfl rfl (one2v _ _ _ _) ?_)
    exact ret_thr (HE.out.hr.setRow [.int .i64 (num), .slice (some ⟨w2.heap.size + 1, 0, none⟩) (ws.length + 1) cap]) rfl rfl rfl ⟨⟨_, ws ++ [[]], _, rfl, (HE.out.done _).1, h64, .inr ⟨[], rfl, by decide⟩⟩, (HE.out.done _).2⟩
  · go_upto_region 7 with fail
    have x1 := HO.out.c1
    refine wp_region_plan (fun w' => w'.cell? ⟨w.heap.size, 1, none⟩ = some (.slice o ws.length ws.length)) [1] (.take 0 (.take 1 (.take 2 (.take 4 (.ask 3 true (.ask 5 true (.take 6 (.ask 7 true (.ask 8 true (.ask 9 false (.take 10 (.ask 11 false .stop .stop)) .stop) .stop) .stop)) .stop) .stop))))) (by kernel_rfl) (by kernel_rfl) (fun _ d _ _ _ h => by cases d <;> exact h) x1 ?_
    have HOd := Lib.hid HO.out.drew
    clear x1 HO
    generalize w2.drew = wd at HOd ⊢
    refine take_any _ ?_ rfl rfl ?_ (fun K hK => ?_); rotate_left; (intro w0; go_simp; (try rfl)); (go_simp; refine hK _ ?_; clear hK K)
    refine take_held _ ?_ rfl rfl (by decide) ?_ (fun K hK => ?_); rotate_left; (intro w0 hw0; go_simp; (try rfl)); (go_simp; refine hK _ ?_; clear hK K)
    refine take_any _ ?_ rfl rfl ?_ (fun K hK => ?_); rotate_left; (intro w0; go_simp; (try rfl)); (go_simp; refine hK _ ?_; clear hK K)
    refine take_any _ ?_ rfl rfl ?_ (fun K hK => ?_); rotate_left; (intro w0; go_simp; (try rfl)); (go_simp; refine hK _ ?_; clear hK K)
    refine ask_step _ rfl trivial ?_; go_wp2_with (go_at_call 11; (with_reducible refine (N3.out _ HOd.out.hd).mono ?_); rintro e wa2 ⟨⟨p, hp, rfl⟩, hg, hd⟩; have HOa := Lib.hid (HOd.out.dice hg hd); clear hg hd); refine Seg.mk ⟨HOa.out.c1, ?_⟩
    refine ask_step _ rfl trivial ?_; go_wp2_with (go_at_call 11; (with_reducible refine (N3.out _ HOa.out.hd).mono ?_); rintro e wb2 ⟨⟨q, hq, rfl⟩, hg, hd⟩; have HOb := Lib.hid (HOa.out.dice hg hd); clear hg hd); refine Seg.mk ⟨HOb.out.c1, ?_⟩
    refine take_any _ ?_ rfl rfl ?_ (fun K hK => ?_); rotate_left; (intro w0; go_simp; (try rfl)); (go_simp; refine hK _ ?_; clear hK K)
    have HO3 := Lib.hid (HOb.out.alloc (.cells #[.int .i64 (p : Int), .int .i64 (q : Int)] 39))
    have HN3 := Lib.hid (Arr.new wb2 [.int .i64 (p : Int), .int .i64 (q : Int)] 39)
    have HO4 := Lib.hid (HO3.out.alloc (.cells #[.slice (some ⟨wb2.heap.size, 0, none⟩) 1 1] 26))
    have HM4 := Lib.hid (HN3.out.alloc (.cells #[.slice (some ⟨wb2.heap.size, 0, none⟩) 1 1] 26))
    have HN4 := Lib.hid (Arr.new2 wb2 (.cells #[.int .i64 (p : Int), .int .i64 (q : Int)] 39) [.slice (some ⟨wb2.heap.size, 0, none⟩) 1 1] 26)
    have HL2 := Lib.hid HOb.out.lt
    refine ask_step _ rfl trivial ?_; go_wp2_with fail; refine Seg.mk ⟨HO3.out.c1, ?_⟩
    refine ask_step _ rfl trivial ?_; go_wp2_with fail; refine Seg.mk ⟨HO4.out.c1, ?_⟩
    refine ask_late _ rfl trivial ?_; go_wp2_with (at_builtin; refine wpList_append_full rfl (.tmp 23) (.tmp 30) rfl (fun b => b < ((wb2.alloc (.cells #[.int .i64 (p : Int), .int .i64 (q : Int)] 39)).alloc (.cells #[.slice (some ⟨wb2.heap.size, 0, none⟩) 1 1] 26)).heap.size ∧ b ≠ w.heap.size ∧ b ≠ w.heap.size + 1) (fun b => b < ((wb2.alloc (.cells #[.int .i64 (p : Int), .int .i64 (q : Int)] 39)).alloc (.cells #[.slice (some ⟨wb2.heap.size, 0, none⟩) 1 1] 26)).heap.size + 1 ∧ b ≠ w.heap.size ∧ b ≠ w.heap.size + 1) o ws.length ws rfl (HO4.out.hk.to (fun b hb => ⟨⟨by have := HO4.out.lt; omega, by omega, by omega⟩, rfl⟩)) (fun b hb => ⟨⟨by omega, hb.2⟩, hb.1⟩) (by have := HO4.out.lt; exact ⟨by omega, by omega, by omega⟩) wb ⟨wb2.heap.size + 1, 0, none⟩ 1 (.slice (some ⟨wb2.heap.size, 0, none⟩) 1 1) [((p : Int), (q : Int))] rfl (HN4.out.cellAt rfl) (frsK_one HM4.out (by have := HL2.out; exact ⟨by simp; omega, by omega, by omega⟩) (by unfold in64; omega) (by unfold in64; omega)) (wb2.heap.size + 1 + 1) (by simp) ?_; intro cap w5 hb5 hs5 hf5); refine Seg.mk ?_
    have HO5 := Lib.hid (HO4.out.below hb5)
    rw [← hs5] at hf5
    have HF5 := Lib.hid hf5
    clear hb5 hs5 hf5
    have x1 := HO5.out.c1
    have f1 := HO5.out.hp.free 1
    refine take_any _ ?_ rfl rfl ?_ (fun K hK => ?_); rotate_left; (intro w0; go_simp; (try rfl)); (go_simp; refine hK _ ?_; clear hK K)
    refine ask_last _ rfl trivial ?_
    go_upto_region 12 with fail
    have hE := HO5.out.put HF5.out
    clear x1 f1
    generalize w5.setCell ⟨w.heap.size, 1, none⟩ (.slice (some ⟨wb2.heap.size + 1 + 1, 0, none⟩) (ws.length + 1) cap) = wz at hE ⊢
    have HE := Lib.hid hE
    clear hE
    have y0 := HE.out.hp.cellAt (j := 0) rfl
    have y1 := HE.out.hp.cellAt (j := 1) rfl
    go_wp2_with (refine wp_st rfl 25 (.tmp 4) (.tmp 58) rfl _ [.int .i64 (num), .slice (some ⟨wb2.heap.size + 1 + 1, 0, none⟩) (ws.length + 1) cap] rfl rfl HE.out.hr Try.infoth rfl rfl (one2v _ _ _ _) ?_)
    exact ret_thr (HE.out.hr.setRow [.int .i64 (num), .slice (some ⟨wb2.heap.size + 1 + 1, 0, none⟩) (ws.length + 1) cap]) rfl rfl rfl ⟨⟨_, ws ++ [[((p : Int), (q : Int))]], _, rfl, (HE.out.done _).1, h64, .inr ⟨_, rfl, by simp⟩⟩, (HE.out.done _).2⟩
  · go_upto_region 9 with fail
    have x1 := HO.out.c1
    refine wp_region_plan (fun w' => w'.cell? ⟨w.heap.size, 1, none⟩ = some (.slice o ws.length ws.length)) [1] (.take 0 (.take 1 (.take 3 (.take 8 (Plan.join true (.ask 2 true (.ask 4 true .stop .stop) (.ask 4 true (.ask 2 true .stop .stop) .stop)) (.take 5 (.ask 6 true (.take 7 (.ask 9 true (.ask 10 true (.ask 11 false (.take 12 (.ask 13 false .stop .stop)) .stop) .stop) .stop)) .stop))))))) (by kernel_rfl) (by kernel_rfl) (fun _ d _ _ _ h => by cases d <;> exact h) x1 ?_
    have HOd := Lib.hid HO.out.drew
    clear x1 HO
    generalize w2.drew = wd at HOd ⊢
    refine take_any _ ?_ rfl rfl ?_ (fun K hK => ?_); rotate_left; (intro w0; go_simp; (try rfl)); (go_simp; refine hK _ ?_; clear hK K)
    refine take_held _ ?_ rfl rfl (by decide) ?_ (fun K hK => ?_); rotate_left; (intro w0 hw0; go_simp; (try rfl)); (go_simp; refine hK _ ?_; clear hK K)
    refine take_any _ ?_ rfl rfl ?_ (fun K hK => ?_); rotate_left; (intro w0; go_simp; (try rfl)); (go_simp; refine hK _ ?_; clear hK K)
    refine take_any _ ?_ rfl rfl ?_ (fun K hK => ?_); rotate_left; (intro w0; go_simp; (try rfl)); (go_simp; refine hK _ ?_; clear hK K)
    refine plan_cut [37, 39] (fun vs wx => ∃ (F p : Nat), p < 5 ∧ vs = [.slice (some ⟨F, 0, none⟩) 5 5, .int .i64 (p : Int)] ∧ w.heap.size + 1 < F ∧ Arr wx F 3 [.int .i64 100, .int .i64 101, .int .i64 1, .int .i64 0, .int .i64 (-1)] ∧ Odd w B g A num o ws wx) ?_ ?_
    rotate_left; rintro vs wb2 ⟨F, p, hp, rfl, hF, hAF, hOb⟩; simp only [puts, Act.put, List.setIfInBounds_toArray, List.set_cons_zero, List.set_cons_succ]; rotate_right
    · refine ask_step _ rfl ?_ ?_
      rotate_left
      · have HOa := Lib.hid (HOd.out.alloc (.cells #[.int .i64 100, .int .i64 101, .int .i64 1, .int .i64 0, .int .i64 (-1)] 3))
        have HNa := Lib.hid (Arr.new wd [.int .i64 100, .int .i64 101, .int .i64 1, .int .i64 0, .int .i64 (-1)] 3)
        have HLd := Lib.hid HOd.out.lt
        go_wp2_with fail
        refine Seg.mk ⟨HOa.out.c1, ?_⟩
        refine ask_step _ rfl trivial ?_
        go_wp2_with (go_at_call 11; (with_reducible refine (N5.out _ HOa.out.hd).mono ?_); rintro e wc ⟨⟨p, hp, rfl⟩, hg, hd⟩)
        have hc := HOa.out.dice hg hd
        have hA := HNa.out.kept hg (by have := HLd.out; have := HOd.out.gA; have := HOd.out.AC; intro e; cases e; omega)
        refine Seg.mk ⟨hc.c1, ?_⟩
        exact plan_meet [.slice (some ⟨wd.heap.size, 0, none⟩) 5 5, .int .i64 (p : Int)] ⟨wd.heap.size, p, hp, rfl, HLd.out, hA, hc⟩ (by simp only [puts, Act.put, List.setIfInBounds_toArray, List.set_cons_zero, List.set_cons_succ])
      · refine ask_step _ rfl trivial ?_
        go_wp2_with (go_at_call 11; (with_reducible refine (N5.out _ HOd.out.hd).mono ?_); rintro e wc ⟨⟨p, hp, rfl⟩, hg, hd⟩)
        have HOc := Lib.hid (HOd.out.dice hg hd)
        clear hg hd
        refine Seg.mk ⟨HOc.out.c1, ?_⟩
        have HOa := Lib.hid (HOc.out.alloc (.cells #[.int .i64 100, .int .i64 101, .int .i64 1, .int .i64 0, .int .i64 (-1)] 3))
        have HNa := Lib.hid (Arr.new wc [.int .i64 100, .int .i64 101, .int .i64 1, .int .i64 0, .int .i64 (-1)] 3)
        have HLc := Lib.hid HOc.out.lt
        refine ask_step _ rfl trivial ?_
        go_wp2_with fail
        refine Seg.mk ⟨HOa.out.c1, ?_⟩
        exact plan_meet [.slice (some ⟨wc.heap.size, 0, none⟩) 5 5, .int .i64 (p : Int)] ⟨wc.heap.size, p, hp, rfl, HLc.out, HNa.out, HOa.out⟩ (by simp only [puts, Act.put, List.setIfInBounds_toArray, List.set_cons_zero, List.set_cons_succ])
    obtain ⟨z, hz, hz64⟩ := hundred p hp
    have pi : (p : Int) < 5 := by omega
    have HOb := Lib.hid hOb
    have HZ := Lib.hid hz64
    have xz := hAF.cellAt hz
    clear hOb hz64 hz
    refine take_any _ ?_ rfl rfl ?_ (fun K hK => ?_); rotate_left; (intro w0; go_simp; (try rfl)); (go_simp; refine hK _ ?_; clear hK K)
    refine ask_step _ rfl trivial ?_; go_wp2_with fail; refine Seg.mk ⟨HOb.out.c1, ?_⟩
    refine take_any _ ?_ rfl rfl ?_ (fun K hK => ?_); rotate_left; (intro w0; go_simp; (try rfl)); (go_simp; refine hK _ ?_; clear hK K)
    clear xz hAF
    have HO3 := Lib.hid (HOb.out.alloc (.cells #[.int .i64 1, .int .i64 z, .int .i64 1, .int .i64 1] 39))
    have HN3 := Lib.hid (Arr.new wb2 [.int .i64 1, .int .i64 z, .int .i64 1, .int .i64 1] 39)
    have HO4 := Lib.hid (HO3.out.alloc (.cells #[.slice (some ⟨wb2.heap.size, 0, none⟩) 2 2] 26))
    have HM4 := Lib.hid (HN3.out.alloc (.cells #[.slice (some ⟨wb2.heap.size, 0, none⟩) 2 2] 26))
    have HN4 := Lib.hid (Arr.new2 wb2 (.cells #[.int .i64 1, .int .i64 z, .int .i64 1, .int .i64 1] 39) [.slice (some ⟨wb2.heap.size, 0, none⟩) 2 2] 26)
    have HL2 := Lib.hid HOb.out.lt
    refine ask_step _ rfl trivial ?_; go_wp2_with fail; refine Seg.mk ⟨HO3.out.c1, ?_⟩
    refine ask_step _ rfl trivial ?_; go_wp2_with fail; refine Seg.mk ⟨HO4.out.c1, ?_⟩
    refine ask_late _ rfl trivial ?_; go_wp2_with (at_builtin; refine wpList_append_full rfl (.tmp 36) (.tmp 45) rfl (fun b => b < ((wb2.alloc (.cells #[.int .i64 1, .int .i64 z, .int .i64 1, .int .i64 1] 39)).alloc (.cells #[.slice (some ⟨wb2.heap.size, 0, none⟩) 2 2] 26)).heap.size ∧ b ≠ w.heap.size ∧ b ≠ w.heap.size + 1) (fun b => b < ((wb2.alloc (.cells #[.int .i64 1, .int .i64 z, .int .i64 1, .int .i64 1] 39)).alloc (.cells #[.slice (some ⟨wb2.heap.size, 0, none⟩) 2 2] 26)).heap.size + 1 ∧ b ≠ w.heap.size ∧ b ≠ w.heap.size + 1) o ws.length ws rfl (HO4.out.hk.to (fun b hb => ⟨⟨by have := HO4.out.lt; omega, by omega, by omega⟩, rfl⟩)) (fun b hb => ⟨⟨by omega, hb.2⟩, hb.1⟩) (by have := HO4.out.lt; exact ⟨by omega, by omega, by omega⟩) wb ⟨wb2.heap.size + 1, 0, none⟩ 1 (.slice (some ⟨wb2.heap.size, 0, none⟩) 2 2) [(1, z), (1, 1)] rfl (HN4.out.cellAt rfl) (frsK_two HM4.out (by have := HL2.out; exact ⟨by simp; omega, by omega, by omega⟩) (by unfold in64; omega) HZ.out (by unfold in64; omega) (by unfold in64; omega)) (wb2.heap.size + 1 + 1) (by simp) ?_; intro cap w5 hb5 hs5 hf5); refine Seg.mk ?_
    have HO5 := Lib.hid (HO4.out.below hb5)
    rw [← hs5] at hf5
    have HF5 := Lib.hid hf5
    clear hb5 hs5 hf5
    have x1 := HO5.out.c1
    have f1 := HO5.out.hp.free 1
    refine take_any _ ?_ rfl rfl ?_ (fun K hK => ?_); rotate_left; (intro w0; go_simp; (try rfl)); (go_simp; refine hK _ ?_; clear hK K)
    refine ask_last _ rfl trivial ?_
    go_upto_region 12 with fail
    have hE := HO5.out.put HF5.out
    clear x1 f1
    generalize w5.setCell ⟨w.heap.size, 1, none⟩ (.slice (some ⟨wb2.heap.size + 1 + 1, 0, none⟩) (ws.length + 1) cap) = wz at hE ⊢
    have HE := Lib.hid hE
    clear hE
    have y0 := HE.out.hp.cellAt (j := 0) rfl
    have y1 := HE.out.hp.cellAt (j := 1) rfl
    go_wp2_with (refine wp_st rfl 25 (.tmp 4) (.tmp 58) rfl _ [.int .i64 (num), .slice (some ⟨wb2.heap.size + 1 + 1, 0, none⟩) (ws.length + 1) cap] rfl rfl HE.out.hr Try.infoth rfl rfl (one2v _ _ _ _) ?_)
    exact ret_thr (HE.out.hr.setRow [.int .i64 (num), .slice (some ⟨wb2.heap.size + 1 + 1, 0, none⟩) (ws.length + 1) cap]) rfl rfl rfl ⟨⟨_, ws ++ [[(1, z), (1, 1)]], _, rfl, (HE.out.done _).1, h64, .inr ⟨_, rfl, by simp⟩⟩, (HE.out.done _).2⟩
  · have x1 := HO.out.c1
    have HO3 := Lib.hid (HO.out.alloc (.cells #[.int .i64 2, .int .i64 4, .int .i64 1, .int .i64 1] 39))
    have HN3 := Lib.hid (Arr.new w2 [.int .i64 2, .int .i64 4, .int .i64 1, .int .i64 1] 39)
    have HO4 := Lib.hid (HO3.out.alloc (.cells #[.slice (some ⟨w2.heap.size, 0, none⟩) 2 2] 26))
    have HM4 := Lib.hid (HN3.out.alloc (.cells #[.slice (some ⟨w2.heap.size, 0, none⟩) 2 2] 26))
    have HN4 := Lib.hid (Arr.new2 w2 (.cells #[.int .i64 2, .int .i64 4, .int .i64 1, .int .i64 1] 39) [.slice (some ⟨w2.heap.size, 0, none⟩) 2 2] 26)
    have HL2 := Lib.hid HO.out.lt
    go_upto_region 12 with (at_builtin; refine wpList_append_full rfl (.tmp 51) (.tmp 55) rfl (fun b => b < ((w2.alloc (.cells #[.int .i64 2, .int .i64 4, .int .i64 1, .int .i64 1] 39)).alloc (.cells #[.slice (some ⟨w2.heap.size, 0, none⟩) 2 2] 26)).heap.size ∧ b ≠ w.heap.size ∧ b ≠ w.heap.size + 1) (fun b => b < ((w2.alloc (.cells #[.int .i64 2, .int .i64 4, .int .i64 1, .int .i64 1] 39)).alloc (.cells #[.slice (some ⟨w2.heap.size, 0, none⟩) 2 2] 26)).heap.size + 1 ∧ b ≠ w.heap.size ∧ b ≠ w.heap.size + 1) o ws.length ws rfl (HO4.out.hk.to (fun b hb => ⟨⟨by have := HO4.out.lt; omega, by omega, by omega⟩, rfl⟩)) (fun b hb => ⟨⟨by omega, hb.2⟩, hb.1⟩) (by have := HO4.out.lt; exact ⟨by omega, by omega, by omega⟩) wb ⟨w2.heap.size + 1, 0, none⟩ 1 (.slice (some ⟨w2.heap.size, 0, none⟩) 2 2) [(2, 4), (1, 1)] rfl (HN4.out.cellAt rfl) (frsK_two HM4.out (by have := HL2.out; exact ⟨by simp; omega, by omega, by omega⟩) (by unfold in64; omega) (by unfold in64; omega) (by unfold in64; omega) (by unfold in64; omega)) (w2.heap.size + 1 + 1) (by simp) ?_; intro cap w5 hb5 hs5 hf5; have HO5 := Lib.hid (HO4.out.below hb5); rw [← hs5] at hf5; have HF5 := Lib.hid hf5; clear hb5 hs5 hf5; have x1 := HO5.out.c1; have f1 := HO5.out.hp.free 1)
    have hE := HO5.out.put HF5.out
    clear x1 f1
    generalize w5.setCell ⟨w.heap.size, 1, none⟩ (.slice (some ⟨w2.heap.size + 1 + 1, 0, none⟩) (ws.length + 1) cap) = wz at hE ⊢
    have HE := Lib.hid hE
    clear hE
    have y0 := HE.out.hp.cellAt (j := 0) rfl
    have y1 := HE.out.hp.cellAt (j := 1) rfl
    go_wp2_with (refine wp_st rfl 25 (.tmp 4) (.tmp 58) rfl _ [.int .i64 (num), .slice (some ⟨w2.heap.size + 1 + 1, 0, none⟩) (ws.length + 1) cap] rfl rfl HE.out.hr Try.infoth rfl rfl (one2v _ _ _ _) ?_)
    exact ret_thr (HE.out.hr.setRow [.int .i64 (num), .slice (some ⟨w2.heap.size + 1 + 1, 0, none⟩) (ws.length + 1) cap]) rfl rfl rfl ⟨⟨_, ws ++ [[(2, 4), (1, 1)]], _, rfl, (HE.out.done _).1, h64, .inr ⟨_, rfl, by decide⟩⟩, (HE.out.done _).2⟩
  · have e0 : (z == 0) = false := by simp; omega
    have e1 : (z == 1) = false := by simp; omega
    have e2 : (z == 2) = false := by simp; omega
    have e3 : (z == 3) = false := by simp; omega
    have e4 : (z == 4) = false := by simp; omega
    go_upto_region 12 with fail
    have hE := HO.out.same
    generalize w2 = wz at hE ⊢
    have HE := Lib.hid hE
    clear hE
    have y0 := HE.out.hp.cellAt (j := 0) rfl
    have y1 := HE.out.hp.cellAt (j := 1) rfl
    go_wp2_with (refine wp_st rfl 25 (.tmp 4) (.tmp 58) rfl _ [.int .i64 (num), .slice o ws.length ws.length] rfl rfl HE.out.hr Try.infoth rfl rfl (one2v _ _ _ _) ?_)
    exact ret_thr (HE.out.hr.setRow [.int .i64 (num), .slice o ws.length ws.length]) rfl rfl rfl ⟨⟨_, ws, _, rfl, (HE.out.done _).1, h64, .inl rfl⟩, (HE.out.done _).2⟩
end Go.Proofs.Ytefhhfpdponabaa
