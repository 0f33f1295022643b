/- Slices of groups that came in: what a walk reads of them; no string in them is longer than the form's reach. -/
import Derived.Test.YtdmgmfdmakheiaaDoorSread
import Derived.SizedLaws
import Derived.ChangeArms
namespace Go.Proofs.YtdmgmfdmakheiaaDoor
open Go Go.RowKit Go.ChangeShapes Go.WideShapes Go.ChangeAt
set_option linter.unusedVariables false
set_option linter.unusedSimpArgs false

theorem list_choose {α : Type} (Q : Nat → α → Prop) : ∀ (len : Nat), (∀ i, i < len → ∃ x, Q i x) → ∃ L : List α, L.length = len ∧ ∀ i, i < len → ∃ x, L[i]? = some x ∧ Q i x
  | 0, _ => ⟨[], rfl, fun i hi => absurd hi (Nat.not_lt_zero _)⟩
  | len + 1, h => by
    obtain ⟨L, hl, hL⟩ := list_choose Q len fun i hi => h i (by omega)
    obtain ⟨x, hx⟩ := h len (by omega)
    refine ⟨L ++ [x], by rw [List.length_append, hl]; rfl, fun i hi => ?_⟩
    by_cases h' : i < len
    · obtain ⟨y, h1, h2⟩ := hL i h'
      exact ⟨y, by rw [List.getElem?_append_left (by omega)]; exact h1, h2⟩
    · obtain rfl : i = len := by omega
      exact ⟨x, by rw [List.getElem?_append_right (by omega), hl]; simp, hx⟩
theorem pair_cells {w : World} {base : Nat} {a : Addr} {cs : List Value} (h : w.cells? base a 2 = some cs) : ∃ u v, cs = [u, v] ∧ w.cell? (a.add 0) = some u ∧ w.cell? (a.add 1) = some v := by
  unfold World.cells? at h
  split at h
  · simp only [List.range_succ, List.range_zero, List.nil_append, List.singleton_append, List.cons_append, List.mapM_cons, List.mapM_nil] at h
    cases h0 : w.cell? (a.add 0) with
    | none => simp [h0] at h
    | some u =>
      cases h1 : w.cell? (a.add 1) with
      | none => simp [h0, h1] at h
      | some v => simp [h0, h1] at h; exact ⟨u, v, h.symm, rfl, rfl⟩
  · cases h
theorem weights_all {H : Type} {P : Program} {e : TypeId} : ∀ (ds : List (DataW H)) (d : DataW H), d ∈ ds → ∀ n, n ∈ d.weights P e → n ∈ DataW.weightsAll P e ds
  | x :: r, d, h, n, hn => by
    simp only [DataW.weightsAll, List.mem_append]
    rcases List.mem_cons.1 h with rfl | h
    · exact .inl hn
    · exact .inr (weights_all r d h n hn)
theorem weights_slice {H : Type} {P : Program} {t e : TypeId} (ht : P.underlying t = some (.slice e)) {ds rs : List (DataW H)} {d : DataW H} (hd : d ∈ ds) {n : Nat} (hn : n ∈ d.weights P e) : n ∈ (DataW.slice ds rs).weights P t := by
  simp only [DataW.weights, ht, List.mem_cons, List.mem_append]
  exact .inr (.inl (weights_all ds d hd n hn))
theorem addr_pair {a : Addr} (hs : a.spot = none) (i j : Nat) : (a.add i).add j = ⟨a.block, a.off + i + j, none⟩ := by
  obtain ⟨b, off, spot⟩ := a
  dsimp only at hs
  subst hs
  rw [Addr.add_lit, Addr.add_lit]
section
variable {H : Type} {enc : TypeId × Value → H} {P : Program} {W : World}
/-- A slice of structs of an integer and a string. -/
theorem isPrims_open {t s ti ts : TypeId} {f0 f1 : Field} {fuel : Nat} {v : Value} {d : DataW H} {p : List MemPlace} (ht : P.underlying t = some (.slice s)) (hs : P.underlying s = some (.struct #[f0, f1])) (h0 : f0.type = ti) (h1 : f1.type = ts) (o0 : f0.offset = 0) (o1 : f1.offset = 1) (hi : P.underlying ti = some (.int .i64)) (hstr : P.underlying ts = some .string) (hcs : P.cellsOf s = 2) (hci : P.cellsOf ti = 1) (hct : P.cellsOf ts = 1)
    (h : DataW.trod enc P W 0 (fun _ => true) true fuel t [v] = some (d, p)) (hw : ∀ n, n ∈ d.weights P t → n ≤ reachBytes) : ∃ L, PrimsAt W.heap.size W v L := by
  subst h0 h1
  rcases DataW.trod_slice ht h with ⟨hcs', _⟩ | ⟨a, len, cap, elems, rest, n, _, hv, hx, _, hl, hm, hlen, hel, _⟩
  · cases hcs'
    exact ⟨[], none, 0, rfl, Nat.le_refl _, Nat.zero_le _, fun j hj => absurd hj (Nat.not_lt_zero _)⟩
  · cases hv
    simp only [Prod.mk.injEq] at hx
    obtain ⟨hd, _⟩ := hx
    have each : ∀ i, i < len → ∃ x : Int × ByteArray, W.cell? ((a.add (i * 2)).add 0) = some (.int .i64 x.1) ∧ W.cell? ((a.add (i * 2)).add 1) = some (.string x.2) ∧ x.2.size ≤ maxLen - 2 := by
      intro i hil
      have hE := hel i hil
      have hy : elems[i]? = some (elems[i]'(by omega)) := List.getElem?_eq_getElem (by omega)
      rw [hy, hcs] at hE
      simp only [Option.bind_eq_some_iff] at hE
      obtain ⟨c1, hc1, hy1⟩ := hE
      obtain ⟨u, v, rfl, e0, e1⟩ := pair_cells hc1
      obtain ⟨y0, y1, m, hyx, _, t0, t1⟩ := trod_struct2 hs hy1
      rw [o0, hci] at t0
      rw [o1, hct] at t1
      obtain ⟨z, q0, q1, _⟩ := DataW.trod_int hi (show DataW.trod enc P W 0 (fun _ => true) true m f0.type [u] = some y0 from t0)
      obtain ⟨r, q2, q3, _⟩ := DataW.trod_string hstr (show DataW.trod enc P W 0 (fun _ => true) true m f1.type [v] = some y1 from t1)
      cases q0
      cases q2
      refine ⟨(z, r), e0, e1, ?_⟩
      have hwr := hw r.data.toList.length (by
        rw [hd]
        refine weights_slice ht (d := (elems[i]'(by omega)).1) (List.mem_map.2 ⟨_, List.getElem_mem _, rfl⟩) ?_
        rw [hyx, q1, q3]
        simp [DataW.weights, hs, DataW.weightsEach])
      rw [Array.length_toList] at hwr
      show r.data.size ≤ maxLen - 2
      unfold maxLen
      unfold reachBytes at hwr
      omega
    obtain ⟨L, hL, hall⟩ := list_choose _ len each
    subst hL
    refine ⟨L, some a, cap, rfl, hl, hm, fun j hj => ?_⟩
    obtain ⟨x, x1, x2, x3, x4⟩ := hall j hj
    obtain ⟨y, -, y2, -⟩ := hall 0 (by omega)
    have hsp : a.spot = none := by simpa [Addr.add] using World.cell?_spot y2
    rw [addr_pair hsp] at x2 x3
    obtain ⟨b, off, spot⟩ := a
    dsimp only at hsp
    subst hsp
    exact ⟨b, off, x.1, x.2, x1, rfl, cell_lt x2, by simpa using x2, x3, x4⟩
end
theorem isGroups_open {H : Type} {enc : TypeId × Value → H} {W : World} {a : Option Addr} {len cap : Nat} {d : DataW H} {p : List MemPlace} (h : DataW.Trod enc Tryd.prog W 0 (fun _ => true) true 23 (.slice a len cap) d p) (hw : ∀ n ∈ d.weights Tryd.prog 23, n ≤ reachBytes) : ∃ G, GroupsAt W.heap.size W (.slice a len cap) G := by
  obtain ⟨fuel, hf⟩ := h
  have hf' : DataW.trod enc Tryd.prog W 0 (fun _ => true) true fuel 23 [.slice a len cap] = some (d, p) := hf
  rcases DataW.trod_slice Tryd.underlying23 hf' with ⟨hcs', _⟩ | ⟨a, len, cap, elems, rest, n, _, hv, hx, _, hl, hm, hlen, hel, _⟩
  · cases hcs'
    exact ⟨[], none, 0, rfl, Nat.le_refl _, Nat.zero_le _, fun j hj => absurd hj (Nat.not_lt_zero _)⟩
  · cases hv
    simp only [Prod.mk.injEq] at hx
    obtain ⟨hd, _⟩ := hx
    have c28 : Tryd.prog.cellsOf 28 = 2 := by kernel_rfl
    have c48 : Tryd.prog.cellsOf 48 = 2 := by kernel_rfl
    have c26 : Tryd.prog.cellsOf 26 = 1 := by kernel_rfl
    have c3 : Tryd.prog.cellsOf 3 = 1 := by kernel_rfl
    have c9 : Tryd.prog.cellsOf 9 = 1 := by kernel_rfl
    have each : ∀ i, i < len → ∃ x : Int × Value × List (Int × ByteArray), W.cell? ((a.add (i * 2)).add 0) = some (.int .i64 x.1) ∧ W.cell? ((a.add (i * 2)).add 1) = some x.2.1 ∧ PrimsAt W.heap.size W x.2.1 x.2.2 := by
      intro i hil
      have hE := hel i hil
      have hy : elems[i]? = some (elems[i]'(by omega)) := List.getElem?_eq_getElem (by omega)
      rw [hy, c28] at hE
      simp only [Option.bind_eq_some_iff] at hE
      obtain ⟨c1, hc1, hy1⟩ := hE
      obtain ⟨u, v, rfl, e0, e1⟩ := pair_cells hc1
      obtain ⟨y0, y1, m, hyx, _, t0, t1⟩ := trod_struct2 Tryd.underlying28 hy1
      simp only [c3, c26] at t0 t1
      obtain ⟨z, q0, q1, _⟩ := DataW.trod_int Tryd.underlying3 (show DataW.trod enc Tryd.prog W 0 (fun _ => true) true m 3 [u] = some y0 from t0)
      cases q0
      obtain ⟨L, hL⟩ := isPrims_open Tryd.underlying26 Tryd.underlying48 rfl rfl rfl rfl Tryd.underlying3 Tryd.underlying9 c48 c3 c9 (show DataW.trod enc Tryd.prog W 0 (fun _ => true) true m 26 [v] = some (y1.1, y1.2) from t1) (fun k hk => hw k (by
        rw [hd]
        refine weights_slice Tryd.underlying23 (d := (elems[i]'(by omega)).1) (List.mem_map.2 ⟨_, List.getElem_mem _, rfl⟩) ?_
        rw [hyx]
        simp only [DataW.weights, Tryd.underlying28, DataW.weightsEach, List.map_cons, List.map_nil, List.mem_append]
        exact .inr (.inl hk)))
      exact ⟨(z, v, L), e0, e1, hL⟩
    obtain ⟨A, hA, hall⟩ := list_choose _ len each
    subst hA
    refine ⟨A.map fun x => (x.1, x.2.2), some a, cap, by rw [List.length_map], by rw [List.length_map]; exact hl, hm, fun j hj => ?_⟩
    rw [List.length_map] at hj
    obtain ⟨x, x1, x2, x3, x4⟩ := hall j hj
    obtain ⟨y, -, y2, -⟩ := hall 0 (by omega)
    have hsp : a.spot = none := by simpa [Addr.add] using World.cell?_spot y2
    rw [addr_pair hsp] at x2 x3
    obtain ⟨b, off, spot⟩ := a
    dsimp only at hsp
    subst hsp
    exact ⟨b, off, x.1, x.2.2, x.2.1, by rw [List.getElem?_map, x1]; rfl, rfl, cell_lt x2, by simpa using x2, x3, x4⟩

end Go.Proofs.YtdmgmfdmakheiaaDoor
