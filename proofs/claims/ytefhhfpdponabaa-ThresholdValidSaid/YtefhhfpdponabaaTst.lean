/- A threshold of the kit beside the dice, through a law: what stands while other memory comes and goes. -/
import Derived.Test.YtefhhfpdponabaaTaw
namespace Go.Proofs.Ytefhhfpdponabaa
open Go.ChangeShapes Go.WideShapes Go.ChangeAt Go.RowKit
set_option linter.unusedVariables false
set_option linter.unusedSimpArgs false

/-- Lists of fractions whose memory lies from A on, below D. -/
def FrssKeep (A D : Nat) (w : World) (v : Value) (ws : List (List FR)) : Prop :=
  ∀ w' : World, (∀ b, A ≤ b → b < D → w'.heap[b]? = w.heap[b]?) → w.heap.size ≤ w'.heap.size → FrssAt D w' v ws
theorem FrssIn.keep {A : Nat} {w : World} {v : Value} {ws : List (List FR)} (h : FrssIn A w v ws) : FrssKeep A w.heap.size w v ws := fun w' hk hs => h w' hs hk
theorem FrssKeep.now {A D : Nat} {w : World} {v : Value} {ws : List (List FR)} (h : FrssKeep A D w v ws) : FrssAt D w v ws := h w (fun _ _ _ => rfl) (Nat.le_refl _)
theorem FrssKeep.step {A D : Nat} {w w1 : World} {v : Value} {ws : List (List FR)} (h : FrssKeep A D w v ws) (hs : w.heap.size ≤ w1.heap.size) (hk : ∀ b, A ≤ b → b < D → w1.heap[b]? = w.heap[b]?) : FrssKeep A D w1 v ws := fun w' hk' hs' =>
  h w' (fun b h1 h2 => (hk' b h1 h2).trans (hk b h1 h2)) (Nat.le_trans hs hs')
theorem obelowC {B C : Nat} {W a b : World} {e size n : Nat} {v : Value} {xs : List Value} (h : Below B W a) (hown : a.ownsRow C e size v n xs) (hBC : B ≤ C) (k : a.grownBy b v.ownBlock) (hB : B ≤ a.heap.size) : Below B W b :=
  ⟨k.os.trans h.os, k.tape.trans h.tape, k.output.trans h.output, Nat.le_trans h.size k.size, fun j hj => (own_kept hown k j (by omega) (by omega)).trans (h.block j hj)⟩
/-- The dice at g, a threshold of the kit at D, behind the memory B that came in. -/
structure Thr (w0 : World) (B g A D : Nat) (num : Int) (o : Option Addr) (c : Nat) (ws : List (List FR)) (w : World) : Prop where
  gA : g < A
  Bg : B ≤ g
  AD : A ≤ D
  B0 : B ≤ w0.heap.size
  hd : DiceAt B w g
  hk : FrssKeep A D w (.slice o ws.length c) ws
  hx : Arr w D 25 [.int .i64 num, .slice o ws.length c]
  hb : Below B w0 w
variable {w0 w w1 : World} {B g A D : Nat} {num : Int} {o : Option Addr} {c : Nat} {ws : List (List FR)}
theorem Thr.lt (h : Thr w0 B g A D num o c ws w) : D < w.heap.size := h.hx.lt
theorem Thr.below (h : Thr w0 B g A D num o c ws w) (hb : Below w.heap.size w w1) : Thr w0 B g A D num o c ws w1 :=
  ⟨h.gA, h.Bg, h.AD, h.B0, h.hd.go hb, h.hk.step hb.size (fun b _ h2 => hb.block b (by have := h.lt; omega)), h.hx.below hb h.lt, h.hb.trans (hb.mono (by have := h.lt; have := h.gA; have := h.Bg; have := h.AD; omega))⟩
theorem Thr.alloc (h : Thr w0 B g A D num o c ws w) (x : Obj) : Thr w0 B g A D num o c ws (w.alloc x) := h.below ((Below.refl w.heap.size w).alloc (Nat.le_refl _) x)
theorem Thr.drew (h : Thr w0 B g A D num o c ws w) : Thr w0 B g A D num o c ws w.drew := h.below (Below.refl w.heap.size w).drew
theorem Thr.dice (h : Thr w0 B g A D num o c ws w) (hg : w.grownBy w1 (some g)) (hd : DiceAt B w1 g) : Thr w0 B g A D num o c ws w1 :=
  have hl := h.lt
  have hgA := h.gA
  have hBg := h.Bg
  have hAD := h.AD
  ⟨h.gA, h.Bg, h.AD, h.B0, hd, h.hk.step hg.size (fun b h1 h2 => hg.block b (by omega) (by intro e; cases e; omega)), h.hx.kept hg (by intro e; cases e; omega), gbelow h.hb hg (by omega) hBg⟩
theorem Thr.own (h : Thr w0 B g A D num o c ws w) {C e size n : Nat} {v : Value} {xs : List Value} (hC : D < C) (hown : w.ownsRow C e size v n xs) (k : w.grownBy w1 v.ownBlock) : Thr w0 B g A D num o c ws w1 :=
  have hl := h.lt
  have hgA := h.gA
  have hBg := h.Bg
  have hAD := h.AD
  ⟨h.gA, h.Bg, h.AD, h.B0, h.hd.same (fun j hj => own_kept hown k j (by omega) (by omega)), h.hk.step k.size (fun b h1 h2 => own_kept hown k b (by omega) (by omega)), h.hx.of_block (own_kept hown k D hC hl), obelowC h.hb hown (by omega) k (by omega)⟩
theorem Thr.at (h : Thr w0 B g A D num o c ws w) : FrssAt w.heap.size w (.slice o ws.length c) ws := h.hk.now.mono (Nat.le_of_lt h.lt)
theorem Thr.c0 (h : Thr w0 B g A D num o c ws w) : w.cell? ⟨D, 0, none⟩ = some (.int .i64 num) := h.hx.cellAt rfl
theorem Thr.c1 (h : Thr w0 B g A D num o c ws w) : w.cell? ⟨D, 1, none⟩ = some (.slice o ws.length c) := h.hx.cellAt rfl
theorem Thr.all (h : Thr w0 B g A D num o c ws w) (hw : w0.heap.size = B) : Below w0.heap.size w0 w := by rw [hw]; exact h.hb
/-- A list that came in, as it reads. -/
def numsL (len : Nat) (zs : List Int) : List Int := (List.range len).map fun i => zs.getD i 0
theorem numsL_length (len : Nat) (zs : List Int) : (numsL len zs).length = len := by simp [numsL]
theorem ints_of_nums {B : Nat} {w : World} {a : Option Addr} {len cap : Nat} {zs : List Int} (h : NumsB B w a len cap zs) : IntsAt B w (.slice a len cap) (numsL len zs) := by
  obtain ⟨h1, h2, h3, -⟩ := h
  refine ⟨a, cap, by rw [numsL_length], by rw [numsL_length]; exact h1, h2, fun i z e => ?_⟩
  have hi : i < len := by
    rcases Nat.lt_or_ge i len with h | h
    · exact h
    · rw [List.getElem?_eq_none (by rw [numsL_length]; exact h)] at e; cases e
  have : z = zs.getD i 0 := by
    unfold numsL at e
    rw [List.getElem?_map, List.getElem?_range hi] at e
    exact (Option.some.inj e).symm
  subst this
  exact h3 i (by omega)
end Go.Proofs.Ytefhhfpdponabaa
