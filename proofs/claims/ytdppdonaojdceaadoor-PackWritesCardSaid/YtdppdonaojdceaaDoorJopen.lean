/- A node that came in: what a walk reads of it. -/
import Derived.Test.YtdppdonaojdceaaDoorNdata
import Derived.Test.YtdppdonaojdceaaDoorNcop
import Derived.SizedLaws
import Derived.ChangeArms
namespace Go.Proofs.YtdppdonaojdceaaDoor
open Go Go.RowKit Go.ChangeShapes Go.WideShapes Go.ChangeAt
set_option linter.unusedVariables false
set_option linter.unusedSimpArgs false

theorem jlist_choose {α : Type} (Q : Nat → α → Prop) : ∀ (len : Nat), (∀ i, i < len → ∃ x, Q i x) → ∃ L : List α, L.length = len ∧ ∀ i, i < len → ∃ x, L[i]? = some x ∧ Q i x
  | 0, _ => ⟨[], rfl, fun i hi => absurd hi (Nat.not_lt_zero _)⟩
  | len + 1, h => by
    obtain ⟨L, hl, hL⟩ := jlist_choose Q len fun i hi => h i (by omega)
    obtain ⟨x, hx⟩ := h len (by omega)
    refine ⟨L ++ [x], by rw [List.length_append, hl]; rfl, fun i hi => ?_⟩
    by_cases h' : i < len
    · obtain ⟨y, h1, h2⟩ := hL i h'
      exact ⟨y, by rw [List.getElem?_append_left (by omega)]; exact h1, h2⟩
    · obtain rfl : i = len := by omega
      exact ⟨x, by rw [List.getElem?_append_right (by omega), hl]; simp, hx⟩
theorem jweights_all {H : Type} {P : Program} {e : TypeId} : ∀ (ds : List (DataW H)) (d : DataW H), d ∈ ds → ∀ n, n ∈ d.weights P e → n ∈ DataW.weightsAll P e ds
  | x :: r, d, h, n, hn => by
    simp only [DataW.weightsAll, List.mem_append]
    rcases List.mem_cons.1 h with rfl | h
    · exact .inl hn
    · exact .inr (jweights_all r d h n hn)
theorem jweights_slice {H : Type} {P : Program} {t e : TypeId} (ht : P.underlying t = some (.slice e)) {ds rs : List (DataW H)} {d : DataW H} (hd : d ∈ ds) {n : Nat} (hn : n ∈ d.weights P e) : n ∈ (DataW.slice ds rs).weights P t := by
  simp only [DataW.weights, ht, List.mem_cons, List.mem_append]
  exact .inr (.inl (jweights_all ds d hd n hn))
theorem cells_at {w : World} {base : Nat} {a : Addr} {n : Nat} {cs : List Value} (h : w.cells? base a n = some cs) : ∀ j u, cs[j]? = some u → w.cell? (a.add j) = some u := by
  unfold World.cells? at h
  split at h
  · intro j u hj
    have hl : cs.length = n := by simpa using mapM_some_length h
    have hlt : j < n := by have := lt_of_some hj; omega
    have := mapM_some_get h j j (by simp [hlt])
    rw [this]; exact hj
  · cases h
theorem cells_len {w : World} {base : Nat} {a : Addr} {n : Nat} {cs : List Value} (h : w.cells? base a n = some cs) : cs.length = n := by
  unfold World.cells? at h
  split at h
  · simpa using mapM_some_length h
  · cases h
theorem six_list {α : Type} {l : List α} (h : l.length = 6) : ∃ a b c d e f, l = [a, b, c, d, e, f] := by
  match l, h with
  | [a, b, c, d, e, f], _ => exact ⟨a, b, c, d, e, f, rfl⟩
theorem trod_bool' {H : Type} {enc : TypeId × Value → H} {P : Program} {w : World} {base : Nat} {sp : Nat → Bool} {held : Bool} {fuel : Nat} {t : TypeId} {cs : List Value} {x : DataW H × List MemPlace} (ht : P.underlying t = some .bool) (h : DataW.trod enc P w base sp held fuel t cs = some x) : ∃ b, cs = [.bool b] := by
  cases fuel with
  | zero => simp [DataW.trod] at h
  | succ n =>
    unfold DataW.trod at h
    rw [ht] at h
    split at h <;> simp_all
section
variable {H : Type} {enc : TypeId × Value → H} {P : Program} {W : World}
theorem jstrs_open {t s : TypeId} {fuel : Nat} {v : Value} {d : DataW H} {p : List MemPlace} (ht : P.underlying t = some (.slice s)) (hs : P.underlying s = some .string) (hc : P.cellsOf s = 1)
    (h : DataW.trod enc P W 0 (fun _ => true) true fuel t [v] = some (d, p)) (hw : ∀ n, n ∈ d.weights P t → n ≤ reachBytes) : ∃ ns, StrsIn (fun b => b < W.heap.size) W v ns := by
  rcases DataW.trod_slice ht h with ⟨hcs', _⟩ | ⟨a, len, cap, elems, rest, n, _, hv, hx, _, hl, hm, hlen, hel, _⟩
  · cases hcs'
    exact ⟨[], StrsIn.nil _ _⟩
  · cases hv
    simp only [Prod.mk.injEq] at hx
    obtain ⟨hd, _⟩ := hx
    have each : ∀ i, i < len → ∃ r : ByteArray, W.cell? ((a.add (i * 1)).add 0) = some (.string r) ∧ r.size ≤ maxLen - 2 := by
      intro i hil
      have hE := hel i hil
      have hy : elems[i]? = some (elems[i]'(by omega)) := List.getElem?_eq_getElem (by omega)
      rw [hy, hc] at hE
      simp only [Option.bind_eq_some_iff] at hE
      obtain ⟨c1, hc1, hy1⟩ := hE
      obtain ⟨r, rfl, q3, _⟩ := DataW.trod_string hs hy1
      refine ⟨r, cells_at hc1 0 _ rfl, ?_⟩
      have hwr := hw r.data.toList.length (by
        rw [hd]
        refine jweights_slice ht (d := (elems[i]'(by omega)).1) (List.mem_map.2 ⟨_, List.getElem_mem _, rfl⟩) ?_
        rw [q3]
        simp [DataW.weights])
      rw [Array.length_toList] at hwr
      show r.data.size ≤ maxLen - 2
      unfold maxLen
      unfold reachBytes at hwr
      omega
    obtain ⟨L, hL, hall⟩ := jlist_choose _ len each
    subst hL
    refine ⟨L, some a, cap, rfl, hl, hm, fun j r hj => ?_⟩
    have hjl := lt_of_some hj
    obtain ⟨r', x1, x2, x3⟩ := hall j hjl
    rw [hj] at x1
    cases x1
    obtain ⟨y', -, y2', -⟩ := hall 0 (by omega)
    have hsp : a.spot = none := by simpa [Addr.add] using World.cell?_spot y2'
    obtain ⟨b, off, spot⟩ := a
    dsimp only at hsp
    subst hsp
    rw [Addr.add_lit, Addr.add_lit, Nat.mul_one, Nat.add_zero] at x2
    exact ⟨b, off, rfl, cell_lt x2, x2, x3⟩
end
theorem node_open {H : Type} {enc : TypeId × Value → H} {W : World} : ∀ (fuel : Nat) (cs : List Value) (d : DataW H) (p : List MemPlace), DataW.trod enc Tryd.prog W 0 (fun _ => true) true fuel 26 cs = some (d, p) → (∀ n, n ∈ d.weights Tryd.prog 26 → n ≤ reachBytes) →
    ∃ x, NodeIn fuel (fun b => b < W.heap.size) W cs x ∧ ∀ n, numsB n x = true := by
  have k3 : Tryd.prog.cellsOf 3 = 1 := by kernel_rfl
  have k4 : Tryd.prog.cellsOf 4 = 1 := by kernel_rfl
  have k9 : Tryd.prog.cellsOf 9 = 1 := by kernel_rfl
  have ks : Tryd.prog.cellsOf 23 = 1 := by kernel_rfl
  have kn : Tryd.prog.cellsOf 24 = 1 := by kernel_rfl
  have kN : Tryd.prog.cellsOf 26 = 6 := by kernel_rfl
  intro fuel
  induction fuel using Nat.strongRecOn with
  | ind fuel ih =>
  intro cs d p h hw
  obtain ⟨xs, n, hfu, hx, hlen, hxl, hall⟩ := DataW.trod_struct Tryd.underlying26 h
  rw [kN] at hlen
  obtain ⟨c0, c1, c2, c3, c4, c5, rfl⟩ := six_list hlen
  obtain ⟨y0, y1, y2, y3, y4, y5, rfl⟩ := six_list (show xs.length = 6 from hxl)
  have t0 : DataW.trod enc Tryd.prog W 0 (fun _ => true) true n 3 (([c0, c1, c2, c3, c4, c5].drop 0).take (Tryd.prog.cellsOf 3)) = some y0 := hall 0 _ rfl
  rw [k3] at t0
  have t1 : DataW.trod enc Tryd.prog W 0 (fun _ => true) true n 4 (([c0, c1, c2, c3, c4, c5].drop 1).take (Tryd.prog.cellsOf 4)) = some y1 := hall 1 _ rfl
  rw [k4] at t1
  have t2 : DataW.trod enc Tryd.prog W 0 (fun _ => true) true n 3 (([c0, c1, c2, c3, c4, c5].drop 2).take (Tryd.prog.cellsOf 3)) = some y2 := hall 2 _ rfl
  rw [k3] at t2
  have t3 : DataW.trod enc Tryd.prog W 0 (fun _ => true) true n 9 (([c0, c1, c2, c3, c4, c5].drop 3).take (Tryd.prog.cellsOf 9)) = some y3 := hall 3 _ rfl
  rw [k9] at t3
  have t4 : DataW.trod enc Tryd.prog W 0 (fun _ => true) true n 23 (([c0, c1, c2, c3, c4, c5].drop 4).take (Tryd.prog.cellsOf 23)) = some y4 := hall 4 _ rfl
  rw [ks] at t4
  have t5 : DataW.trod enc Tryd.prog W 0 (fun _ => true) true n 24 (([c0, c1, c2, c3, c4, c5].drop 5).take (Tryd.prog.cellsOf 24)) = some y5 := hall 5 _ rfl
  rw [kn] at t5
  clear hall
  obtain ⟨z0, q0, r0, w0⟩ := DataW.trod_int Tryd.underlying3 (show DataW.trod enc Tryd.prog W 0 (fun _ => true) true n 3 [c0] = some y0 from t0)
  obtain ⟨z1, q1⟩ := trod_bool' Tryd.underlying4 (show DataW.trod enc Tryd.prog W 0 (fun _ => true) true n 4 [c1] = some y1 from t1)
  obtain ⟨z2, q2, r2, w2⟩ := DataW.trod_int Tryd.underlying3 (show DataW.trod enc Tryd.prog W 0 (fun _ => true) true n 3 [c2] = some y2 from t2)
  obtain ⟨z3, q3, r3, w3⟩ := DataW.trod_string Tryd.underlying9 (show DataW.trod enc Tryd.prog W 0 (fun _ => true) true n 9 [c3] = some y3 from t3)
  cases q0; cases q1; cases q2; cases q3
  simp only [Prod.mk.injEq] at hx
  obtain ⟨hd, -⟩ := hx
  have hwn : ∀ m, m ∈ DataW.weightsEach Tryd.prog [3, 4, 3, 9, 23, 24] [y0.1, y1.1, y2.1, y3.1, y4.1, y5.1] → m ≤ reachBytes := fun m hm => hw m (by rw [hd]; simp only [DataW.weights, Tryd.underlying26]; exact hm)
  simp only [DataW.weightsEach, List.mem_append] at hwn
  have hs3 : z3.size ≤ maxLen - 2 := by
    have hwr := hwn z3.data.toList.length (by
      refine .inr (.inr (.inr (.inl ?_)))
      rw [r3]; simp [DataW.weights])
    rw [Array.length_toList] at hwr
    show z3.data.size ≤ maxLen - 2
    unfold maxLen
    unfold reachBytes at hwr
    omega
  obtain ⟨ns, hns⟩ := jstrs_open (v := c4) (d := y4.1) (p := y4.2) Tryd.underlying23 Tryd.underlying9 k9 (show DataW.trod enc Tryd.prog W 0 (fun _ => true) true n 23 [c4] = some (y4.1, y4.2) from t4) (fun m hm => hwn m (.inr (.inr (.inr (.inr (.inl hm))))))
  have hwide : wideI z2 = true := by
    have := bounds_i64 w2
    unfold wideI; rw [Bool.and_eq_true, decide_eq_true_eq, decide_eq_true_eq]; exact this
  have t5' : DataW.trod enc Tryd.prog W 0 (fun _ => true) true n 24 [c5] = some (y5.1, y5.2) := t5
  rcases DataW.trod_slice Tryd.underlying24 t5' with ⟨hcs', _⟩ | ⟨a, len, cap, elems, rest, n', hn', hv, hx5, _, hl, hm, hlen5, hel, _⟩
  · cases hcs'
    refine ⟨.mk z0 z1 z2 z3 ns [], ?_, fun k => ?_⟩
    · subst hfu
      exact ⟨_, _, rfl, hs3, hns, NodesIn.nil _ _ _⟩
    · cases k with
      | zero => rfl
      | succ k => rw [numsB_succ, Bool.and_eq_true]; exact ⟨hwide, rfl⟩
  · cases hv
    simp only [Prod.mk.injEq] at hx5
    obtain ⟨hd5, -⟩ := hx5
    have each : ∀ i, i < len → ∃ q : List Value × ND, (∀ f u, q.1[f]? = some u → W.cell? ((a.add (i * 6)).add f) = some u) ∧ NodeIn n' (fun b => b < W.heap.size) W q.1 q.2 ∧ ∀ k, numsB k q.2 = true := by
      intro i hil
      have hE := hel i hil
      have hy : elems[i]? = some (elems[i]'(by omega)) := List.getElem?_eq_getElem (by omega)
      rw [hy, kN] at hE
      simp only [Option.bind_eq_some_iff] at hE
      obtain ⟨c1', hc1, hy1⟩ := hE
      obtain ⟨x, hx1, hx2⟩ := ih n' (by omega) c1' (elems[i]'(by omega)).1 (elems[i]'(by omega)).2 hy1 (fun m hm => hwn m (.inr (.inr (.inr (.inr (.inr (.inl (by
        rw [hd5]
        exact jweights_slice Tryd.underlying24 (d := (elems[i]'(by omega)).1) (List.mem_map.2 ⟨_, List.getElem_mem _, rfl⟩) hm))))))))
      exact ⟨(c1', x), cells_at hc1, hx1, hx2⟩
    obtain ⟨A, hA, hallA⟩ := jlist_choose _ len each
    subst hA
    refine ⟨.mk z0 z1 z2 z3 ns (A.map fun q => q.2), ?_, fun k => ?_⟩
    · subst hfu
      subst hn'
      refine ⟨_, _, rfl, hs3, hns, some a, cap, by show _ = Value.slice _ (A.map _).length _; rw [List.length_map], by show (A.map _).length ≤ _; rw [List.length_map]; exact hl, hm, fun j x hj => ?_⟩
      have hj : (A.map fun q => q.2)[j]? = some x := hj
      have hjl := lt_of_some hj
      rw [List.length_map] at hjl
      obtain ⟨q, x1, x2, x3, x4⟩ := hallA j hjl
      rw [List.getElem?_map, x1] at hj
      cases hj
      have h0 := x2 0 _ (List.getElem?_eq_getElem (by rw [x3.len]; decide))
      obtain ⟨y', -, y2', y3', -⟩ := hallA 0 (by omega)
      have hsp : a.spot = none := by simpa [Addr.add] using World.cell?_spot (y2' 0 _ (List.getElem?_eq_getElem (by rw [y3'.len]; decide)))
      obtain ⟨b, off, spot⟩ := a
      dsimp only at hsp
      subst hsp
      refine ⟨b, off, q.1, rfl, ?_, fun f u hu => ?_, x3.deeper (by omega)⟩
      · rw [Addr.add_lit, Addr.add_lit] at h0
        exact cell_lt h0
      · have := x2 f u hu
        rw [Addr.add_lit, Addr.add_lit] at this
        exact this
    · cases k with
      | zero => rfl
      | succ k =>
        rw [numsB_succ, Bool.and_eq_true, List.all_eq_true]
        refine ⟨hwide, fun y hy => ?_⟩
        obtain ⟨q, hq, rfl⟩ := List.mem_map.1 hy
        obtain ⟨i, hi, e⟩ := List.getElem_of_mem hq
        obtain ⟨q', x1, -, -, x4⟩ := hallA i hi
        rw [List.getElem?_eq_getElem hi, e] at x1
        cases x1
        exact x4 k
end Go.Proofs.YtdppdonaojdceaaDoor
