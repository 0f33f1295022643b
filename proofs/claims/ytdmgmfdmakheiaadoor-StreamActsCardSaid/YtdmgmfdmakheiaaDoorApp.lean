/- 'append(s, t...)' where both slices are rows that the walk knows whole, empty ones too, under a guard or without one. For every program. -/
import Derived.Test.YtdmgmfdmakheiaaDoorTrow
import Derived.Maps.AppendAt
import Derived.BigFrame
namespace Go.Proofs.YtdmgmfdmakheiaaDoor
open Go Go.RowKit
set_option linter.unusedVariables false
set_option linter.unusedSimpArgs false

theorem run_append_none {P : Program} (w : World) {base size n : Nat} {t ty e : TypeId} {i : TypeInfo} {v : Value} {xs : List Value} (ht : P.underlying t = some (.slice e)) (hi : P.info? e = some i) (hown : w.ownsRow base e size v n xs) :
    (Builtin.append_ #[t, t] ty #[v, .slice none 0 0]).run P w = .ok v w := by
  rcases hown.2 with ⟨rfl, h0⟩ | ⟨g, cap, cur, rfl, hb, hg, hnc, hcm, hcs, hcu⟩
  · simp [Builtin.append_, run_underlying ht, sizeOf, typeInfo, hi, Builtin.lenOf, Builtin.firstCells, loadCells, loadCellsFrom]
  · simp [Builtin.append_, run_underlying ht, sizeOf, typeInfo, hi, Builtin.lenOf, Builtin.firstCells, loadCells, loadCellsFrom, storeCells, hnc]
theorem wpList_append_rows {P : Program} (w : World) {ops : Array Oper} {rest : List Oper} {o : Oper} {a : Act} {Q : Exit → Act → World → Prop} (hgd : Region.wanted o (yielded ops a.tmps) = true) (s x : Operand) (t : TypeId)
    (ho : o.op = .call { callee := .builtin .append, args := #[s, x], argTypes := #[t, t] })
    (base : Nat) (e : TypeId) (i : TypeInfo) (z : Value) (size bytes : Nat) (ht : P.underlying t = some (.slice e)) (hi : P.info? e = some i) (hz : i.zero = some z)
    (hsize : i.size = size) (hby : i.bytes = bytes) (hzs : z.cells.size = size) (hsz : 0 < size)
    (v : Value) (n : Nat) (xs : List Value) (hs : a.eval s = v) (hown : w.ownsRow base e size v n xs)
    (bx : Nat) (vx : Value) (m : Nat) (news : List Value) (hx : a.eval x = vx) (hownx : w.ownsRow bx e size vx m news) (h1 : ∀ u ∈ news, u.oneCell' = true)
    (h63 : n + m ≤ maxLen) (hbytes : (n + m) * bytes ≤ 140737488355328) (hbase : base ≤ w.heap.size)
    (h : ∀ v' w', w'.ownsRow base e size v' (n + m) (xs ++ news) → w.grownBy w' v.ownBlock → wpList P ops Q rest (a.put o.dst v') w') :
    wpList P ops Q (o :: rest) a w := by
  refine BigFrame.wpList_want hgd fun K hK => ?_
  have key : ∃ v' w', (Builtin.append_ #[t, t] o.type #[v, vx]).run P w = .ok v' w' ∧ w'.ownsRow base e size v' (n + m) (xs ++ news) ∧ w.grownBy w' v.ownBlock := by
    have hl := hownx.1
    rcases hownx.2 with ⟨rfl, rfl⟩ | ⟨g, cap, cur, rfl, -, -, -, -, -, -⟩
    · obtain rfl : news = [] := List.eq_nil_of_length_eq_zero (by simpa using hl)
      exact ⟨v, w, run_append_none w ht hi hown, by simpa using hown, World.grownBy.refl _ _⟩
    · obtain ⟨v', w', hr, h2, h3, _⟩ := run_append_own_at (P := P) w base t o.type e i z size bytes ht hi hz hsize hby hzs hsz v n xs hown ⟨g, 0, none⟩ m cap news hl (hownx.cells (g := g) rfl) h1 h63 hbytes hbase
      exact ⟨v', w', hr, h2, h3⟩
  obtain ⟨v', w', hr, h2, h3⟩ := key
  unfold Oper.wp execOp
  simp only [ho, resolve, invoke, builtin, Sem.run_bind, Sem.run_pure, Result.andThen_ok, List.map_toArray, List.map_cons, List.map_nil, hs, hx, hr]
  exact hK _ _ (h v' w' h2 h3)
theorem gCells_one (A : List Trip) (h : ∀ x, x ∈ A → x.2.1.oneCell' = true) : ∀ u ∈ gCells A, u.oneCell' = true := by
  intro u hu
  obtain ⟨x, hx, hu⟩ := List.mem_flatMap.1 hu
  simp at hu
  rcases hu with rfl | rfl
  · rfl
  · exact h x hx
theorem grow_one {TG : TypeId} {base : Nat} {w : World} {v : Value} {A : List Trip} (h : GRow TG base w v A) : ∀ u ∈ gCells A, u.oneCell' = true :=
  gCells_one A fun x hx => by
    obtain ⟨ao, cap, e, _⟩ := (h.2 x hx).1
    rw [e]; rfl
/-- A row of groups that the call owns, whose items lie wherever. -/
theorem groups_of_owns {TG : TypeId} {base : Nat} {w : World} {v : Value} {A : List Trip} (h1 : w.ownsRow base TG 2 v A.length (gCells A)) (h2 : ∀ x, x ∈ A → PrimsAt w.heap.size w x.2.1 x.2.2) : GroupsAt w.heap.size w v (grpsOf A) := by
  have hl : (grpsOf A).length = A.length := by simp [grpsOf]
  rcases h1.2 with ⟨rfl, h0⟩ | ⟨g, cap, cur, rfl, hb, hg, hnc, hcm, hcs, hcu⟩
  · exact ⟨none, 0, by rw [hl, h0], by omega, Nat.zero_le _, fun j hj => absurd hj (by omega)⟩
  · refine ⟨_, cap, by rw [hl], by omega, hcm, fun j hj => ?_⟩
    have hj' : j < A.length := by omega
    have e : A[j]? = some (A[j].1, A[j].2.1, A[j].2.2) := by rw [List.getElem?_eq_getElem hj']
    obtain ⟨q1, q2⟩ := gCells_at e
    have hlt := lt_of_block hg
    refine ⟨g, 0, A[j].1, A[j].2.2, A[j].2.1, ?_, rfl, hlt, ?_, ?_, h2 _ (List.getElem_mem hj')⟩
    · rw [grpsOf, List.getElem?_map, e]; rfl
    · have := h1.cells (g := g) rfl _ _ q1
      rw [Addr.add_lit] at this; exact this
    · have := h1.cells (g := g) rfl _ _ q2
      rw [Addr.add_lit, ← Nat.add_assoc] at this; exact this

end Go.Proofs.YtdmgmfdmakheiaaDoor
