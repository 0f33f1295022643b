/- A list more behind lists of fractions: append to a slice that is full. -/
import Derived.Test.YtefhhfpdponabaaTvo
import Derived.BigFrame
namespace Go.Proofs.Ytefhhfpdponabaa
open Go.ChangeShapes Go.WideShapes Go.ChangeAt Go.RowKit
set_option linter.unusedVariables false
set_option linter.unusedSimpArgs false

theorem Try.infoS : (Try.prog.info? 26).map (fun i => (i.zero, i.size, i.bytes)) = some (some (.slice none 0 0), 1, 24) := by kernel_rfl
/-- What lies at the address of the cells of a slice. -/
def CellsO (w : World) (o : Option Addr) (xs : List Value) : Prop := ∀ (j : Nat) (v : Value), xs[j]? = some v → ∃ b, o = some b ∧ w.cell? (b.add j) = some v
theorem full_append (w : World) (o : Option Addr) (n : Nat) (hn : n ≤ 1000000) (olds : List Value) (hlo : olds.length = n) (holds : CellsO w o olds) (a : Addr) (c : Nat) (lv : Value) (hnew : w.cell? a = some lv) (ty : TypeId) :
    ∃ (cap : Nat) (X : Array Value), n + 1 ≤ cap ∧ cap ≤ maxLen ∧ (∀ (j : Nat) (v : Value), (olds ++ [lv])[j]? = some v → X[j]? = some v) ∧
      (Builtin.append_ #[23, 23] ty #[.slice o n n, .slice (some a) 1 c]).run Try.prog w = .ok (.slice (some ⟨w.heap.size, 0, none⟩) (n + 1) cap) (w.drew.alloc (.cells X 26)) := by
  obtain ⟨i0, hi, hz0, hz1, hz2⟩ := info_parts Try.infoS
  have ht := Try.underlying23
  have hnews : ∀ j v, [lv][j]? = some v → w.cell? (a.add j) = some v := fun j v e => by
    match j, e with
    | 0, e =>
      cases e
      have : a.add 0 = a := by
        obtain ⟨b, off, spot⟩ := a
        cases spot with
        | none => simp [Addr.add]
        | some q => simp [Addr.add]
      rw [this]; exact hnew
    | j + 1, e => simp at e
  cases o with
  | none =>
    obtain rfl : n = 0 := by
      rcases Nat.eq_zero_or_pos n with h | h
      · exact h
      · obtain ⟨b, hb, -⟩ := holds 0 _ (List.getElem?_eq_getElem (by omega))
        cases hb
    obtain rfl : olds = [] := List.eq_nil_of_length_eq_zero hlo
    refine ⟨grownCap w 1 0 26, _, grownCap_ge _ _ _ _, grownCap_le_maxLen _ _ _ _ (by unfold maxLen; omega), ?_, run_append_nil (P := Try.prog) w 23 ty 26 i0 (.slice none 0 0) ht hi hz0 a 1 c [lv] (by rw [hz1]; rfl) hnews (by omega) (by omega) (by rw [hz2]; omega)⟩
    intro j v e
    match j, e with
    | 0, e => cases e; exact Array.getElem?_append_left (xs := [lv].toArray) (by simp)
    | j + 1, e => simp at e
  | some b =>
    have hb : ∀ j v, olds[j]? = some v → w.cell? (b.add j) = some v := fun j v e => by
      obtain ⟨b', h1, h2⟩ := holds j v e
      cases h1; exact h2
    have hfit := growslice_fits (need := n + 1) (old := n) (bytes := i0.bytes) (by omega) (by rw [hz2]; omega)
    refine ⟨grownCap w (n + 1) n 26, _, grownCap_ge _ _ _ _, grownCap_le_maxLen _ _ _ _ (by unfold maxLen; omega), ?_, run_append_grow (P := Try.prog) w 23 ty 26 i0 (.slice none 0 0) ht hi hz0 b n n olds (by rw [hz1, hlo]; omega) hb a 1 c [lv] (by rw [hz1]; rfl) hnews (by omega) (by omega) hfit⟩
    intro j v e
    have hj : j < (olds ++ [lv]).length := (List.getElem?_eq_some_iff.1 e).1
    have : (olds.toArray ++ [lv].toArray ++ Builtin.zeroCells (Value.slice none 0 0).cells (grownCap w (n + 1) n 26 - (n + 1)))[j]? = (olds.toArray ++ [lv].toArray)[j]? := Array.getElem?_append_left (by simp at hj ⊢; omega)
    rw [this]
    simpa using e
/-- Fractions in memory, in blocks of a kind. -/
def FrsK (K : Nat → Prop) (w : World) (v : Value) (l : List FR) : Prop :=
  ∃ (ao : Option Addr) (cap : Nat), v = .slice ao l.length cap ∧ l.length ≤ cap ∧ cap ≤ maxLen ∧ (∀ f ∈ l, in64 f.1 ∧ in64 f.2) ∧
    ∀ (i : Nat) (f : FR), l[i]? = some f → ∃ g off, ao = some ⟨g, off, none⟩ ∧ K g ∧ w.cell? ⟨g, off + i * 2, none⟩ = some (.int .i64 f.1) ∧ w.cell? ⟨g, off + i * 2 + 1, none⟩ = some (.int .i64 f.2)
/-- Lists of fractions in memory, in blocks of a kind. -/
def FrssK (K : Nat → Prop) (w : World) (v : Value) (ws : List (List FR)) : Prop :=
  ∃ (ao : Option Addr) (cap : Nat), v = .slice ao ws.length cap ∧ ws.length ≤ cap ∧ cap ≤ maxLen ∧
    ∀ (i : Nat) (l : List FR), ws[i]? = some l → ∃ g off u, ao = some ⟨g, off, none⟩ ∧ K g ∧ w.cell? ⟨g, off + i, none⟩ = some u ∧ FrsK K w u l
theorem cell_same {w w' : World} {g : Nat} (h : w'.heap[g]? = w.heap[g]?) (j : Nat) : w'.cell? ⟨g, j, none⟩ = w.cell? ⟨g, j, none⟩ := by
  simp [World.cell?, h]
section
variable {K K' : Nat → Prop} {w w' : World} {v : Value} {l : List FR} {ws : List (List FR)} {B : Nat}
theorem FrsK.to (h : FrsK K w v l) (hk : ∀ b, K b → K' b ∧ w'.heap[b]? = w.heap[b]?) : FrsK K' w' v l := by
  obtain ⟨ao, cap, h1, h2, h3, h4, h5⟩ := h
  refine ⟨ao, cap, h1, h2, h3, h4, fun i f e => ?_⟩
  obtain ⟨g, off, a1, a2, a3, a4⟩ := h5 i f e
  exact ⟨g, off, a1, (hk g a2).1, (cell_same (hk g a2).2 _).trans a3, (cell_same (hk g a2).2 _).trans a4⟩
theorem FrssK.to (h : FrssK K w v ws) (hk : ∀ b, K b → K' b ∧ w'.heap[b]? = w.heap[b]?) : FrssK K' w' v ws := by
  obtain ⟨ao, cap, h1, h2, h3, h5⟩ := h
  refine ⟨ao, cap, h1, h2, h3, fun i l e => ?_⟩
  obtain ⟨g, off, u, a1, a2, a3, a4⟩ := h5 i l e
  exact ⟨g, off, u, a1, (hk g a2).1, (cell_same (hk g a2).2 _).trans a3, a4.to hk⟩
theorem FrsK.at (h : FrsK K w v l) (hk : ∀ b, K b → b < B) : FrsAt B w v l := by
  obtain ⟨ao, cap, h1, h2, h3, h4, h5⟩ := h
  refine ⟨ao, cap, h1, h2, h3, h4, fun i f e => ?_⟩
  obtain ⟨g, off, a1, a2, a3, a4⟩ := h5 i f e
  exact ⟨g, off, a1, hk g a2, a3, a4⟩
theorem FrssK.at (h : FrssK K w v ws) (hk : ∀ b, K b → b < B) : FrssAt B w v ws := by
  obtain ⟨ao, cap, h1, h2, h3, h5⟩ := h
  refine ⟨ao, cap, h1, h2, h3, fun i l e => ?_⟩
  obtain ⟨g, off, u, a1, a2, a3, a4⟩ := h5 i l e
  exact ⟨g, off, u, a1, hk g a2, a3, a4.at hk⟩
theorem FrsK.of (h : FrsAt B w v l) : FrsK (· < B) w v l := h
theorem FrssK.of (h : FrssAt B w v ws) : FrssK (· < B) w v ws := h
end
/-- A world with nothing outside of some blocks. -/
def World.only (w : World) (A D : Nat) : World := { w with heap := w.heap.mapIdx fun i o => if A ≤ i ∧ i < D then o else .cells #[] 0 }
theorem only_size (w : World) (A D : Nat) : (World.only w A D).heap.size = w.heap.size := by simp [World.only]
theorem only_in (w : World) (A D b : Nat) (h1 : A ≤ b) (h2 : b < D) : (World.only w A D).heap[b]? = w.heap[b]? := by
  simp only [World.only, Array.getElem?_mapIdx, if_pos (And.intro h1 h2)]
  cases w.heap[b]? <;> rfl
theorem only_cell (w : World) (A D b j : Nat) (u : Value) (h : (World.only w A D).cell? ⟨b, j, none⟩ = some u) : A ≤ b ∧ b < D := by
  by_cases hb : A ≤ b ∧ b < D
  · exact hb
  · exfalso
    simp only [World.cell?, World.only, Array.getElem?_mapIdx, if_neg hb] at h
    cases hq : w.heap[b]? <;> simp [hq] at h
theorem FrssKeep.conc {A D : Nat} {w : World} {v : Value} {ws : List (List FR)} (h : FrssKeep A D w v ws) : FrssK (fun b => A ≤ b ∧ b < D) w v ws := by
  have hc : ∀ b j u, (World.only w A D).cell? ⟨b, j, none⟩ = some u → (A ≤ b ∧ b < D) ∧ w.cell? ⟨b, j, none⟩ = some u := fun b j u e => by
    have hb := only_cell w A D b j u e
    exact ⟨hb, (cell_same (only_in w A D b hb.1 hb.2) j) ▸ e⟩
  obtain ⟨ao, cap, h1, h2, h3, h5⟩ := h (World.only w A D) (fun b b1 b2 => only_in w A D b b1 b2) (by rw [only_size]; exact Nat.le_refl _)
  refine ⟨ao, cap, h1, h2, h3, fun i l e => ?_⟩
  obtain ⟨g, off, u, a1, a2, a3, a4⟩ := h5 i l e
  obtain ⟨k1, k2⟩ := hc _ _ _ a3
  refine ⟨g, off, u, a1, k1, k2, ?_⟩
  obtain ⟨bo, cap', q1, q2, q3, q4, q5⟩ := a4
  refine ⟨bo, cap', q1, q2, q3, q4, fun j f e => ?_⟩
  obtain ⟨g', off', r1, r2, r3, r4⟩ := q5 j f e
  exact ⟨g', off', r1, (hc _ _ _ r3).1, (hc _ _ _ r3).2, (hc _ _ _ r4).2⟩
/-- The lists as they lie, and their cells. -/
theorem frss_cells {K : Nat → Prop} {w : World} {o : Option Addr} {n c : Nat} {ws : List (List FR)} (h : FrssK K w (.slice o n c) ws) : n = ws.length ∧ ∃ olds : List Value, olds.length = ws.length ∧ CellsO w o olds ∧ ∀ (i : Nat) (l : List FR), ws[i]? = some l → ∃ u, olds[i]? = some u ∧ FrsK K w u l := by
  obtain ⟨ao, cap, h1, h2, h3, h5⟩ := h
  cases h1
  refine ⟨rfl, ?_⟩
  obtain ⟨olds, hl, hall⟩ := tlist_choose (fun i u => (∃ b, o = some b ∧ w.cell? (b.add i) = some u) ∧ ∀ l, ws[i]? = some l → FrsK K w u l) ws.length (fun i hi => by
    obtain ⟨g, off, u, e1, e2, e3, e4⟩ := h5 i _ (List.getElem?_eq_getElem hi)
    refine ⟨u, ⟨⟨g, off, none⟩, e1, by rw [Addr.add_lit]; exact e3⟩, fun l e => ?_⟩
    rw [List.getElem?_eq_getElem hi] at e
    cases e; exact e4)
  refine ⟨olds, hl, fun j v e => ?_, fun i l e => ?_⟩
  · have hj : j < olds.length := (List.getElem?_eq_some_iff.1 e).1
    obtain ⟨x, x1, x2, -⟩ := hall j (by omega)
    rw [e] at x1; cases x1; exact x2
  · have hi : i < ws.length := (List.getElem?_eq_some_iff.1 e).1
    obtain ⟨x, x1, -, x3⟩ := hall i hi
    exact ⟨x, x1, x3 l e⟩
/-- The lists and one more, in a block of their own. -/
theorem frss_snoc {K K' : Nat → Prop} {w : World} {n : Nat} {ws : List (List FR)} {l : List FR} {lv : Value} (hn : n = ws.length) (hK : ∀ b, K b → K' b ∧ b < w.heap.size) (hN : K' w.heap.size) (hl : FrsK K w lv l) {cap : Nat} {X : Array Value} (h1 : n + 1 ≤ cap) (h2 : cap ≤ maxLen) (olds : List Value) (ho : olds.length = ws.length) (hc : ∀ (i : Nat) (l : List FR), ws[i]? = some l → ∃ u, olds[i]? = some u ∧ FrsK K w u l) (hX : ∀ (j : Nat) (v : Value), (olds ++ [lv])[j]? = some v → X[j]? = some v) (T : TypeId) :
    FrssK K' (w.drew.alloc (.cells X T)) (.slice (some ⟨w.heap.size, 0, none⟩) (n + 1) cap) (ws ++ [l]) := by
  subst hn
  have hb : Below w.heap.size w (w.drew.alloc (.cells X T)) := ((Below.refl w.heap.size w).drew).alloc (by simp) _
  refine ⟨_, cap, by rw [List.length_append]; rfl, by rw [List.length_append]; exact h1, h2, fun i x e => ?_⟩
  have hu : ∃ u, (olds ++ [lv])[i]? = some u ∧ FrsK K w u x := by
    rcases Nat.lt_or_ge i ws.length with hi | hi
    · rw [List.getElem?_append_left hi] at e
      obtain ⟨u, u1, u2⟩ := hc i x e
      exact ⟨u, by rw [List.getElem?_append_left (by omega)]; exact u1, u2⟩
    · rw [List.getElem?_append_right hi] at e
      have hil : i - ws.length < [l].length := (List.getElem?_eq_some_iff.1 e).1
      have h0 : i - ws.length = 0 := by simpa using hil
      rw [h0] at e
      cases e
      exact ⟨lv, by rw [List.getElem?_append_right (by omega), ho, h0]; rfl, hl⟩
  obtain ⟨u, u1, u2⟩ := hu
  refine ⟨w.heap.size, 0, u, rfl, hN, ?_, u2.to fun b hb' => ⟨(hK b hb').1, hb.block b (hK b hb').2⟩⟩
  have hi2 := hX i u u1
  obtain ⟨Xl, rfl⟩ : ∃ l : List Value, X = l.toArray := ⟨X.toList, by simp⟩
  rw [Nat.zero_add]
  exact (Arr.new w.drew Xl T).cellAt (by simpa using hi2)
section
variable {ops : Array Oper} {Q : Exit → Act → World → Prop}
/-- Append of one list to a slice that is full, in a walk. -/
theorem wpList_append_full {a : Act} {w : World} {rest : List Oper} {o : Oper} (hw : Region.wanted o (yielded ops a.tmps) = true) (s x : Operand)
    (ho : o.op = .call { callee := .builtin .append, args := #[s, x], argTypes := #[23, 23] })
    (K K' : Nat → Prop) (ao : Option Addr) (n : Nat) (ws : List (List FR)) (hs : a.eval s = .slice ao n n) (h : FrssK K w (.slice ao n n) ws) (hK : ∀ b, K b → K' b ∧ b < w.heap.size) (hN : K' w.heap.size) (hn : n ≤ 1000000)
    (ad : Addr) (c : Nat) (lv : Value) (l : List FR) (hx : a.eval x = .slice (some ad) 1 c) (hnew : w.cell? ad = some lv) (hl : FrsK K w lv l)
    (H : Nat) (hH : w.heap.size = H)
    (hh : ∀ cap w', Below w.heap.size w w' → w'.heap.size = w.heap.size + 1 → FrssK K' w' (.slice (some ⟨H, 0, none⟩) (n + 1) cap) (ws ++ [l]) → wpList Try.prog ops Q rest (a.put o.dst (.slice (some ⟨H, 0, none⟩) (n + 1) cap)) w') :
    wpList Try.prog ops Q (o :: rest) a w := by
  subst hH
  refine BigFrame.wpList_want hw fun k hk => ?_
  obtain ⟨hnl, olds, h1, h2, h3⟩ := frss_cells h
  obtain ⟨cap, X, q1, q2, q3, hr⟩ := full_append w ao n hn olds (by omega) h2 ad c lv hnew o.type
  have hf := frss_snoc hnl hK hN hl q1 q2 olds h1 h3 q3 26
  have hsz : (w.drew.alloc (.cells X 26)).heap.size = w.heap.size + 1 := by simp
  unfold Oper.wp execOp
  simp only [ho, resolve, invoke, builtin, Sem.run_bind, Sem.run_pure, Result.andThen_ok, List.map_toArray, List.map_cons, List.map_nil, hs, hx, hr]
  exact hk _ _ (hh cap _ (((Below.refl w.heap.size w).drew).alloc (by simp) _) hsz hf)
end
end Go.Proofs.Ytefhhfpdponabaa
