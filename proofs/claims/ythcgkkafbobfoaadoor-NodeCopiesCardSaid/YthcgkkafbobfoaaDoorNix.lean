/- slices.Index over names, slices.Clone over nodes; Text, Number, List, Map. -/
import Derived.Test.YthcgkkafbobfoaaDoorNsm
import Derived.WalkSpells
namespace Go.Proofs.YthcgkkafbobfoaaDoor
open Go Go.ChangeShapes Go.WideShapes Go.ChangeAt Go.RowKit
set_option linter.unusedVariables false
set_option linter.unusedSimpArgs false

def idxZ (ns : List ByteArray) (s : ByteArray) : Int := match ns.findIdx? (fun t => decide (t = s)) with
  | some i => (i : Int)
  | none => -1
set_option maxHeartbeats 1600000 in
set_option maxRecDepth 100000 in
theorem idxstr_any {S : Nat → Prop} (v : Value) (ns : List ByteArray) (s : ByteArray) (w : World) (h : StrsIn S w v ns) : Calls Tryd.prog 32 #[v, .string s] w fun e w' => e = .returned (.int .i64 (idxZ ns s)) ∧ w = w' := by
  obtain ⟨a1, c1, e1, p1, p2, -⟩ := id h
  subst e1
  unfold maxLen at p2
  have H := Lib.hid h
  clear h
  go_enter Tryd.func32, Tryd.ntmps32
  go_wp2
  go_loop [5, 8] (fun i5 i => ∃ j : Nat, i = .int .i64 j ∧ j ≤ ns.length ∧ ∀ t, t ∈ ns.take j → t ≠ s) (fun _ i => ns.length - (intOf i).toNat)
  case atStart => exact ⟨0, rfl, Nat.zero_le _, fun t ht => by simp at ht⟩
  case round =>
    obtain ⟨j, rfl, hj, hno⟩ := hrel
    by_cases hlt : j < ns.length
    · have hlt' : (j : Int) < (ns.length : Int) := by omega
      have hj0 : (0 : Int) ≤ (j : Int) := by omega
      obtain ⟨t, ht⟩ : ∃ t, ns[j]? = some t := ⟨_, List.getElem?_eq_getElem hlt⟩
      obtain ⟨b, off, rfl, hb, k1⟩ := H.out.get ht
      have HT := Lib.hid ht
      have HNO := Lib.hid hno
      clear ht hno
      by_cases hst : s = t
      · have hx : (s.toList == t.toList) = true := str_beq hst
        have HST := Lib.hid hst
        clear hst
        go_wp2
        go_ret
        refine ⟨?_, rfl⟩
        have hf : ns.findIdx? (fun t => decide (t = s)) = some j := by
          rw [List.findIdx?_eq_some_iff_getElem]
          refine ⟨hlt, ?_, fun q hq e => ?_⟩
          · have := HT.out
            rw [List.getElem?_eq_getElem hlt] at this
            rw [Option.some.inj this, HST.out]
            exact decide_eq_true rfl
          · refine HNO.out ns[q] ?_ (of_decide_eq_true e)
            rw [List.mem_take_iff_getElem]
            exact ⟨q, by omega, rfl⟩
        unfold idxZ
        rw [hf]
        rfl
      · have hx : (s.toList == t.toList) = false := str_bne hst
        have HST := Lib.hid hst
        clear hst
        go_wp2
        go_round
        case rel =>
          refine ⟨j + 1, by go_num, by omega, fun u hu => ?_⟩
          rw [List.take_add_one, HT.out] at hu
          rcases List.mem_append.1 hu with hu | hu
          · exact HNO.out u hu
          · simp at hu; subst hu; exact fun e => HST.out e.symm
        case measure => simp [intOf]; omega
    · have hlt' : ¬ (j : Int) < (ns.length : Int) := by omega
      have hf : ns.findIdx? (fun t => decide (t = s)) = none := by
        rw [List.findIdx?_eq_none_iff]
        rw [List.take_of_length_le (by omega)] at hno
        exact fun t ht => decide_eq_false (hno t ht)
      have HF := Lib.hid hf
      clear hno hf
      go_wp2
      go_ret
      refine ⟨?_, rfl⟩
      unfold idxZ
      rw [HF.out]
      rfl
/-- A shallow copy of nodes: an own row of their cells. -/
def CloneNew (TN : TypeId) (d : Nat) (S : Nat → Prop) (w : World) (its : List ND) (e : Ending) (w' : World) : Prop := ∃ (v : Value) (A : List NC), e = .returned v ∧ w'.ownsRow w.heap.size TN 6 v A.length (nCells A) ∧ nodesOf A = its ∧ (∀ y, y ∈ A → NodeIn d S w y.1 y.2) ∧ Below w.heap.size w w'
/-- The cells of a slice of nodes that came in. -/
theorem NodesIn.cells {d : Nat} {S : Nat → Prop} {w : World} {a : Addr} {l cap : Nat} {its : List ND} (h : NodesIn (NodeIn d S w) S w (.slice (some a) l cap) its) : l = its.length ∧ ∃ A : List NC, nodesOf A = its ∧ A.length = its.length ∧ (∀ y, y ∈ A → NodeIn d S w y.1 y.2) ∧ ∀ j u, (nCells A)[j]? = some u → w.cell? (a.add j) = some u := by
  obtain ⟨ao, cap', e, h1, h2, h3⟩ := h
  cases e
  refine ⟨rfl, ?_⟩
  -- the six cells of each element, chosen
  have key : ∀ j, j < its.length → ∃ cs, NodeIn d S w cs (its.getD j nd0) ∧ ∃ b off, a = ⟨b, off, none⟩ ∧ ∀ f u, cs[f]? = some u → w.cell? ⟨b, off + j * 6 + f, none⟩ = some u := by
    intro j hj
    obtain ⟨b, off, cs, e, hS, hc, hr⟩ := h3 j _ (List.getElem?_eq_getElem hj)
    cases e
    exact ⟨cs, by rw [List.getD_eq_getElem?_getD, List.getElem?_eq_getElem hj]; exact hr, b, off, rfl, hc⟩
  have key2 : ∀ n, n ≤ its.length → ∃ A : List NC, nodesOf A = its.take n ∧ A.length = n ∧ (∀ y, y ∈ A → NodeIn d S w y.1 y.2) ∧ ∀ j u, (nCells A)[j]? = some u → w.cell? (a.add j) = some u := by
    intro n
    induction n with
    | zero => exact fun _ => ⟨[], rfl, rfl, (fun y hy => by cases hy), fun j u h => by simp [nCells] at h⟩
    | succ n ih =>
      intro hn
      obtain ⟨A, i1, i2, i3, i4⟩ := ih (by omega)
      obtain ⟨cs, hr, b, off, rfl, hc⟩ := key n (by omega)
      have h6 : ∀ y, y ∈ A → y.1.length = 6 := fun y hy => (i3 y hy).len
      have hlc := nCells_length A h6
      refine ⟨A ++ [(cs, its.getD n nd0)], ?_, by simp [i2], ?_, ?_⟩
      · rw [List.take_add_one, ← i1, List.getD_eq_getElem?_getD, List.getElem?_eq_getElem (by omega : n < its.length)]
        simp [nodesOf]
      · intro y hy
        rcases List.mem_append.1 hy with hy | hy
        · exact i3 y hy
        · cases List.mem_singleton.1 hy; exact hr
      · intro j u hj
        rw [nCells_append] at hj
        rcases Nat.lt_or_ge j (nCells A).length with hlt | hge
        · rw [List.getElem?_append_left hlt] at hj; exact i4 j u hj
        · rw [List.getElem?_append_right hge, hlc, i2] at hj
          have := hc (j - n * 6) u (by simpa [nCells] using hj)
          rw [Addr.add_lit, show off + j = off + n * 6 + (j - n * 6) by omega]
          exact this
  obtain ⟨A, i1, i2, i3, i4⟩ := key2 its.length (Nat.le_refl _)
  rw [List.take_length] at i1
  exact ⟨A, i1, i2, i3, i4⟩
set_option maxHeartbeats 800000 in
set_option maxRecDepth 100000 in
theorem clone_any {d : Nat} {S : Nat → Prop} (v : Value) (its : List ND) (w : World) (h : NodesIn (NodeIn d S w) S w v its) (hl : its.length ≤ 1000000) : Calls Tryd.prog 31 #[v] w (CloneNew 26 d S w its) := by
  obtain ⟨ip, hip, hz0, hz1, hz2⟩ := infon
  have hug := Tryd.underlying24
  have HI := Lib.hid hip
  clear hip
  obtain ⟨ao, cap, e1, p1, p2, p3⟩ := id h
  subst e1
  unfold maxLen at p2
  cases ao with
  | none =>
    have he : its = [] := by
      cases its with
      | nil => rfl
      | cons x t => obtain ⟨_, _, _, h, _⟩ := p3 0 x rfl; cases h
    subst he
    clear h p3
    have hq := fun (wx : World) => Lib.run_eql_slice_nil (P := Tryd.prog) wx 24
    go_enter Tryd.func31, Tryd.ntmps31
    go_wp2
    go_ret
    exact ⟨_, [], rfl, World.ownsRow_nil _ _ _ _, rfl, (fun y hy => by cases hy), Below.refl _ _⟩
  | some a =>
    obtain ⟨-, A, hA1, hA2, hA3, hA4⟩ := h.cells
    have hq := fun (wx : World) => Lib.run_eql_slice_nil (P := Tryd.prog) wx 24
    have b1 := (Below.refl w.heap.size w).alloc (o := .cells #[] 26) (Nat.le_refl _)
    have hO := World.ownsRow_lit (base := w.heap.size) (size := 6) (e := 26) w #[] 0 (Nat.le_refl _) (by decide) rfl
    have hone : ∀ u ∈ nCells A, u.oneCell' = true := by
      intro u hu
      obtain ⟨y, hy, hu⟩ := List.mem_flatMap.1 hu
      exact (hA3 y hy).one u hu
    have hlt : ∀ j u, (nCells A)[j]? = some u → (w.alloc (.cells #[] 26)).cell? (a.add j) = some u := fun j u hj => (b1.cell (cell_lt (hA4 j u hj))).trans (hA4 j u hj)
    have HO := Lib.hid hO
    have HLT := Lib.hid hlt
    have HONE := Lib.hid hone
    have HL6 := Lib.hid (nCells_length A fun y hy => (hA3 y hy).len)
    have HA1 := Lib.hid hA1
    have HA2 := Lib.hid hA2
    have HA3 := Lib.hid hA3
    have B1 := Lib.hid b1
    have hs1 := b1.size
    clear h p3 hA1 hA2 hA3 hA4 hO hone hlt b1
    go_enter Tryd.func31, Tryd.ntmps31
    go_wp2_with ((refine wpList_append_own_at _ rfl (.tmp 5) (.tmp 6) 24 rfl w.heap.size 26 ip (.agg #[.int .i64 0, .bool false, .int .i64 0, .string ⟨#[]⟩, .slice none 0 0, .slice none 0 0]) 6 88 hug HI.out hz0 hz1 hz2 rfl (by decide) (.slice (some ⟨w.heap.size, 0, none⟩) 0 0) 0 [] rfl HO.out a its.length cap (nCells A) rfl (by rw [HL6.out, HA2.out]) HLT.out HONE.out (by unfold maxLen; omega) (by omega) hs1 ?_); intro v' w2 hown hgrow hx1 hx2)
    go_ret
    refine ⟨_, A, rfl, ?_, HA1.out, HA3.out, ?_⟩
    · rw [HA2.out]
      simpa using hown
    · exact obelow B1.out HO.out hgrow hs1
end Go.Proofs.YthcgkkafbobfoaaDoor
