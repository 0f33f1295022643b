/- Fractions, lists of them, and a threshold, that came in: what a walk reads of them. -/
import Derived.Test.YtefhhfpdponabaaTsa
import Derived.ChangeArms
import Derived.ChangeSame
namespace Go.Proofs.Ytefhhfpdponabaa
open Go Go.RowKit Go.ChangeShapes Go.WideShapes Go.ChangeAt
set_option linter.unusedVariables false
set_option linter.unusedSimpArgs false

theorem tlist_choose {α : Type} (Q : Nat → α → Prop) : ∀ (len : Nat), (∀ i, i < len → ∃ x, Q i x) → ∃ L : List α, L.length = len ∧ ∀ i, i < len → ∃ x, L[i]? = some x ∧ Q i x
  | 0, _ => ⟨[], rfl, fun i hi => absurd hi (Nat.not_lt_zero _)⟩
  | len + 1, h => by
    obtain ⟨L, hl, hL⟩ := tlist_choose Q len fun i hi => h i (by omega)
    obtain ⟨x, hx⟩ := h len (by omega)
    refine ⟨L ++ [x], by rw [List.length_append, hl]; rfl, fun i hi => ?_⟩
    by_cases h' : i < len
    · obtain ⟨y, h1, h2⟩ := hL i h'
      exact ⟨y, by rw [List.getElem?_append_left (by omega)]; exact h1, h2⟩
    · obtain rfl : i = len := by omega
      exact ⟨x, by rw [List.getElem?_append_right (by omega), hl]; simp, hx⟩
theorem tpair_cells {w : World} {base : Nat} {a : Addr} {cs : List Value} (h : w.cells? base a 2 = some cs) : ∃ u v, cs = [u, v] ∧ w.cell? (a.add 0) = some u ∧ w.cell? (a.add 1) = some v := by
  unfold World.cells? at h
  split at h
  · simp only [List.range_succ, List.range_zero, List.nil_append, List.singleton_append, List.cons_append, List.mapM_cons, List.mapM_nil] at h
    cases h0 : w.cell? (a.add 0) with
    | none => simp [h0] at h
    | some u =>
      cases h1 : w.cell? (a.add 1) with
      | none => simp [h0, h1] at h
      | some v => simp [h0, h1] at h; exact ⟨u, v, h.symm, rfl, rfl⟩
  · cases h
theorem tone_cell {w : World} {base : Nat} {a : Addr} {cs : List Value} (h : w.cells? base a 1 = some cs) : ∃ u, cs = [u] ∧ w.cell? (a.add 0) = some u := by
  unfold World.cells? at h
  split at h
  · simp only [List.range_succ, List.range_zero, List.nil_append, List.mapM_cons, List.mapM_nil] at h
    cases h0 : w.cell? (a.add 0) with
    | none => simp [h0] at h
    | some u => simp [h0] at h; exact ⟨u, h.symm, rfl⟩
  · cases h
theorem taddr_pair {a : Addr} (hs : a.spot = none) (i j : Nat) : (a.add i).add j = ⟨a.block, a.off + i + j, none⟩ := by
  obtain ⟨b, off, spot⟩ := a
  dsimp only at hs
  subst hs
  rw [Addr.add_lit, Addr.add_lit]
theorem tcell_lt {w : World} {p : Addr} {v : Value} (h : w.cell? p = some v) : p.block < w.heap.size := by
  obtain ⟨b, off, spot⟩ := p
  unfold World.cell? at h
  by_cases hb : b < w.heap.size
  · exact hb
  · have : w.heap[b]? = none := Array.getElem?_eq_none (by omega)
    simp [this] at h
section
variable {H : Type} {enc : TypeId × Value → H} {W : World}
theorem frs_open {fuel : Nat} {v : Value} {d : DataW H} {p : List MemPlace} (h : DataW.trod enc Try.prog W 0 (fun _ => true) true fuel 26 [v] = some (d, p)) : ∃ L, FrsAt W.heap.size W v L := by
  rcases DataW.trod_slice Try.underlying26 h with ⟨hcs', _⟩ | ⟨a, len, cap, elems, rest, n, _, hv, hx, _, hl, hm, hlen, hel, _⟩
  · cases hcs'
    exact ⟨[], none, 0, rfl, Nat.le_refl _, Nat.zero_le _, fun f hf => absurd hf List.not_mem_nil, fun i f e => by cases e⟩
  · cases hv
    have c2 : Try.prog.cellsOf 39 = 2 := by kernel_rfl
    have c1 : Try.prog.cellsOf 3 = 1 := by kernel_rfl
    have each : ∀ i, i < len → ∃ x : FR, W.cell? ((a.add (i * 2)).add 0) = some (.int .i64 x.1) ∧ W.cell? ((a.add (i * 2)).add 1) = some (.int .i64 x.2) ∧ in64 x.1 ∧ in64 x.2 := by
      intro i hil
      have hE := hel i hil
      have hy : elems[i]? = some (elems[i]'(by omega)) := List.getElem?_eq_getElem (by omega)
      rw [hy, c2] at hE
      simp only [Option.bind_eq_some_iff] at hE
      obtain ⟨q, hq, hy1⟩ := hE
      obtain ⟨u, v, rfl, e0, e1⟩ := tpair_cells hq
      obtain ⟨y0, y1, m, hyx, _, t0, t1⟩ := trod_struct2 Try.underlying39 hy1
      simp only [c1] at t0 t1
      obtain ⟨z, q0, _, b0⟩ := DataW.trod_int Try.underlying3 (show DataW.trod enc Try.prog W 0 (fun _ => true) true m 3 [u] = some y0 from t0)
      obtain ⟨r, q2, _, b1⟩ := DataW.trod_int Try.underlying3 (show DataW.trod enc Try.prog W 0 (fun _ => true) true m 3 [v] = some y1 from t1)
      cases q0
      cases q2
      exact ⟨(z, r), e0, e1, bounds_i64 b0, bounds_i64 b1⟩
    obtain ⟨L, hL, hall⟩ := tlist_choose _ len each
    subst hL
    refine ⟨L, some a, cap, rfl, hl, hm, fun f hf => ?_, fun i f e => ?_⟩
    · obtain ⟨j, hj, rfl⟩ := List.mem_iff_getElem.1 hf
      obtain ⟨x, x1, x2, x3, x4, x5⟩ := hall j hj
      rw [List.getElem?_eq_getElem hj] at x1
      cases x1
      exact ⟨x4, x5⟩
    · have hil : i < L.length := (List.getElem?_eq_some_iff.1 e).1
      obtain ⟨x, x1, x2, x3, x4, x5⟩ := hall i hil
      rw [e] at x1
      cases x1
      obtain ⟨y, -, y2, -⟩ := hall 0 (by omega)
      have hsp : a.spot = none := by simpa [Addr.add] using World.cell?_spot y2
      rw [taddr_pair hsp] at x2 x3
      obtain ⟨b, off, spot⟩ := a
      dsimp only at hsp
      subst hsp
      exact ⟨b, off, rfl, tcell_lt x2, by simpa using x2, x3⟩
theorem frss_open {fuel : Nat} {v : Value} {d : DataW H} {p : List MemPlace} (h : DataW.trod enc Try.prog W 0 (fun _ => true) true fuel 23 [v] = some (d, p)) : ∃ ws, FrssAt W.heap.size W v ws := by
  rcases DataW.trod_slice Try.underlying23 h with ⟨hcs', _⟩ | ⟨a, len, cap, elems, rest, n, _, hv, hx, _, hl, hm, hlen, hel, _⟩
  · cases hcs'
    exact ⟨[], none, 0, rfl, Nat.le_refl _, Nat.zero_le _, fun i l e => by cases e⟩
  · cases hv
    have c1 : Try.prog.cellsOf 26 = 1 := by kernel_rfl
    have each : ∀ i, i < len → ∃ x : Value × List FR, W.cell? ((a.add (i * 1)).add 0) = some x.1 ∧ FrsAt W.heap.size W x.1 x.2 := by
      intro i hil
      have hE := hel i hil
      have hy : elems[i]? = some (elems[i]'(by omega)) := List.getElem?_eq_getElem (by omega)
      rw [hy, c1] at hE
      simp only [Option.bind_eq_some_iff] at hE
      obtain ⟨q, hq, hy1⟩ := hE
      obtain ⟨u, rfl, e0⟩ := tone_cell hq
      obtain ⟨L, hL⟩ := frs_open (fuel := n) (v := u) (d := (elems[i]'(by omega)).1) (p := (elems[i]'(by omega)).2) hy1
      exact ⟨(u, L), e0, hL⟩
    obtain ⟨A, hA, hall⟩ := tlist_choose _ len each
    subst hA
    refine ⟨A.map fun x => x.2, some a, cap, by rw [List.length_map], by rw [List.length_map]; exact hl, hm, fun i l e => ?_⟩
    have hil : i < A.length := by
      have := (List.getElem?_eq_some_iff.1 e).1
      rwa [List.length_map] at this
    obtain ⟨x, x1, x2, x3⟩ := hall i hil
    rw [List.getElem?_map, x1] at e
    cases e
    obtain ⟨y, -, y2, -⟩ := hall 0 (by omega)
    have hsp : a.spot = none := by simpa [Addr.add] using World.cell?_spot y2
    rw [taddr_pair hsp] at x2
    obtain ⟨b, off, spot⟩ := a
    dsimp only at hsp
    subst hsp
    exact ⟨b, off, x.1, rfl, tcell_lt x2, by simpa using x2, x3⟩
theorem thr_open {fuel : Nat} {u v : Value} {d : DataW H} {p : List MemPlace} (h : DataW.trod enc Try.prog W 0 (fun _ => true) true fuel 25 [u, v] = some (d, p)) : ∃ num ws, u = .int .i64 num ∧ in64 num ∧ FrssAt W.heap.size W v ws := by
  have c1 : Try.prog.cellsOf 3 = 1 := by kernel_rfl
  have c2 : Try.prog.cellsOf 23 = 1 := by kernel_rfl
  obtain ⟨y0, y1, m, hyx, _, t0, t1⟩ := trod_struct2 Try.underlying25 h
  simp only [c1, c2] at t0 t1
  obtain ⟨z, q0, _, b0⟩ := DataW.trod_int Try.underlying3 (show DataW.trod enc Try.prog W 0 (fun _ => true) true m 3 [u] = some y0 from t0)
  cases q0
  obtain ⟨ws, hws⟩ := frss_open (fuel := m) (v := v) (d := y1.1) (p := y1.2) t1
  exact ⟨z, ws, rfl, bounds_i64 b0, hws⟩
theorem thr_opens {fuel : Nat} {cs : List Value} {d : DataW H} {p : List MemPlace} (h : DataW.trod enc Try.prog W 0 (fun _ => true) true fuel 25 cs = some (d, p)) : ∃ num v ws, cs = [.int .i64 num, v] ∧ in64 num ∧ FrssAt W.heap.size W v ws := by
  have c0 : Try.prog.cellsOf 25 = 2 := by kernel_rfl
  obtain ⟨y0, y1, m, hyx, hl, -, -⟩ := trod_struct2 Try.underlying25 h
  rw [c0] at hl
  match cs, hl, h with
  | [u, v], _, h =>
    obtain ⟨num, ws, rfl, h1, h2⟩ := thr_open h
    exact ⟨num, v, ws, rfl, h1, h2⟩
end
end Go.Proofs.Ytefhhfpdponabaa
