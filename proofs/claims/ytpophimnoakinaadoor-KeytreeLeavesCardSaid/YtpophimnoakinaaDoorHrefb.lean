/- Slices that a call has made, of elements of one cell, whatever is frozen behind them ('[]byte(s)' too): append within the capacity and beyond, of cells and of a string. For every program. -/
import Derived.Test.YtpophimnoakinaaDoorHrefa
import Derived.Lib.AppendStr
namespace Go.Proofs.YtpophimnoakinaaDoor
open Go Go.RowKit
set_option linter.unusedVariables false
set_option linter.unusedSimpArgs false

/-- v is a slice, not nil, of n elements xs, in a row of its own in a block from B on. -/
def Own (w : World) (B : Nat) (e : TypeId) (v : Value) (n : Nat) (xs : List Value) : Prop :=
  ∃ g cap, v = .slice (some ⟨g, 0, none⟩) n cap ∧ B ≤ g ∧ xs.length = n ∧ cap ≤ maxLen ∧ Row w g e cap xs

theorem Own.below {w w' : World} {B : Nat} {e : TypeId} {v : Value} {n : Nat} {xs : List Value} (h : Own w B e v n xs) (hb : Below w.heap.size w w') : Own w' B e v n xs := by
  obtain ⟨g, cap, hv, hg, hl, hm, hr⟩ := h
  exact ⟨g, cap, hv, hg, hl, hm, hr.below hb hr.lt⟩
theorem Own.alloc {w : World} {B : Nat} {e : TypeId} {v : Value} {n : Nat} {xs : List Value} (h : Own w B e v n xs) (o : Obj) : Own (w.alloc o) B e v n xs := by
  obtain ⟨g, cap, hv, hg, hl, hm, hr⟩ := h
  exact ⟨g, cap, hv, hg, hl, hm, hr.alloc o⟩
theorem Own.lit (w : World) (B : Nat) (e : TypeId) (xs : List Value) (hB : B ≤ w.heap.size) (hm : xs.length ≤ maxLen) : Own (w.alloc (.cells xs.toArray e)) B e (.slice (some ⟨w.heap.size, 0, none⟩) xs.length xs.length) xs.length xs :=
  ⟨_, _, rfl, hB, rfl, hm, by simpa using Row.new w xs.toArray e xs (by simp) (by simp)⟩
theorem Own.form {w : World} {B : Nat} {e : TypeId} {v : Value} {n : Nat} {xs : List Value} (h : Own w B e v n xs) : ∃ g cap, v = .slice (some ⟨g, 0, none⟩) n cap ∧ n ≤ cap ∧ cap ≤ maxLen := by
  obtain ⟨g, cap, hv, hg, hl, hm, hr⟩ := h
  exact ⟨g, cap, hv, by have := hr.le; omega, hm⟩

section
variable {P : Program}
theorem run_append_Own (w : World) (B : Nat) (t ty e : TypeId) (i : TypeInfo) (z : Value) (ht : P.underlying t = some (.slice e)) (hi : P.info? e = some i) (hz : i.zero = some z) (hsize : i.size = 1) (hby : i.bytes = 1) (hzs : z.cells.size = 1)
    (v : Value) (n : Nat) (xs : List Value) (hown : Own w B e v n xs)
    (a : Addr) (m c : Nat) (news : List Value) (hl : news.length = m) (hnews : ∀ j u, news[j]? = some u → w.cell? (a.add j) = some u) (h1 : ∀ u ∈ news, u.oneCell' = true)
    (hb : n + m ≤ 140737488355328) (hB : B ≤ w.heap.size) :
    ∃ v' w', (Builtin.append_ #[t, t] ty #[v, .slice (some a) m c]).run P w = .ok v' w' ∧ Own w' B e v' (n + m) (xs ++ news) ∧ Below B w w' := by
  obtain ⟨g, cap, rfl, hg, hx, hm, hr⟩ := hown
  by_cases hroom : n + m ≤ cap
  · have hrun := run_append_room_cells (P := P) w t ty e i ht hi g 0 n cap a m c news (by rw [hsize]; omega) hnews h1 hroom
      (fun j hj => by rw [hsize]; simpa using (hr.there (j := n + j) (by omega)).1) (fun j hj => by rw [hsize]; simpa using (hr.there (j := n + j) (by omega)).2)
    rw [hsize, Nat.mul_one, Nat.zero_add] at hrun
    subst hx
    exact ⟨_, _, hrun, ⟨g, cap, rfl, hg, by simp [hl], hm, hr.pushes news (by omega)⟩, (Below.refl B w).grown (grownBy_setCells w g xs.length news) hB (fun k hk => by cases hk; exact hg)⟩
  · have hrun := run_append_grow (P := P) w t ty e i z ht hi hz ⟨g, 0, none⟩ n cap xs (by rw [hsize]; omega) (fun j u hj => by rw [Addr.add_lit]; simpa using hr.cellAt hj) a m c news (by rw [hsize]; omega) hnews (by omega) (by omega) (growslice_fits (by omega) (by rw [hby]; omega))
    have hge := grownCap_ge w (n + m) cap e
    have hcm : grownCap w (n + m) cap e ≤ maxLen := grownCap_le_maxLen w (n + m) cap e (by unfold maxLen; omega)
    refine ⟨_, _, hrun, ⟨w.heap.size, _, rfl, hB, by simp [hx, hl], hcm, ?_⟩, (Below.refl B w).drew.alloc hB _⟩
    have hsz : (xs.toArray ++ news.toArray ++ Builtin.zeroCells z.cells (grownCap w (n + m) cap e - (n + m))).size = grownCap w (n + m) cap e := by
      simp only [Array.size_append, List.size_toArray, size_zeroCells, hzs]
      omega
    have := Row.new w.drew (xs.toArray ++ news.toArray ++ Builtin.zeroCells z.cells (grownCap w (n + m) cap e - (n + m))) e (xs ++ news) (by rw [hsz]; simp; omega) (by
      simp only [Array.toList_append, List.append_assoc]
      rw [← List.append_assoc]
      exact List.take_left)
    rw [hsz] at this
    exact this
theorem run_append_OwnS (w : World) (B : Nat) (t u ty e : TypeId) (i : TypeInfo) (z : Value) (ht : P.underlying t = some (.slice e)) (hu : P.underlying u = some .string) (hi : P.info? e = some i) (hz : i.zero = some z) (hsize : i.size = 1) (hby : i.bytes = 1) (hzs : z.cells.size = 1)
    (v : Value) (n : Nat) (xs : List Value) (hown : Own w B e v n xs) (s : ByteArray)
    (hb : n + s.size ≤ 140737488355328) (hB : B ≤ w.heap.size) :
    ∃ v' w', (Builtin.append_ #[t, u] ty #[v, .string s]).run P w = .ok v' w' ∧ Own w' B e v' (n + s.size) (xs ++ Lib.strCells s) ∧ Below B w w' := by
  have hsl := Lib.strCells_length s
  obtain ⟨g, cap, rfl, hg, hx, hm, hr⟩ := hown
  by_cases hroom : n + s.size ≤ cap
  · have hfc := Lib.run_firstCells_string (P := P) (w := w) 1 s
    have hst := run_storeCells_cells (P := P) g n (Lib.strCells s) 0 w (fun j hj => by simpa using (hr.there (j := n + j) (by omega)).1) (fun j hj => by simpa using (hr.there (j := n + j) (by omega)).2) (Lib.strCells_oneCell s)
    simp only [Nat.add_zero] at hst
    have hrun : (Builtin.append_ #[t, u] ty #[.slice (some ⟨g, 0, none⟩) n cap, .string s]).run P w = .ok (.slice (some ⟨g, 0, none⟩) (n + s.size) cap) (w.setCells g n (Lib.strCells s)) := by
      simp [Builtin.append_, run_underlying ht, run_underlying hu, sizeOf, typeInfo, hi, Builtin.lenOf, hroom, hfc, Addr.add_lit, hsize, hst]
    subst hx
    exact ⟨_, _, hrun, ⟨g, cap, rfl, hg, by simp [hsl], hm, hr.pushes _ (by omega)⟩, (Below.refl B w).grown (grownBy_setCells w g xs.length _) hB (fun k hk => by cases hk; exact hg)⟩
  · have hrun := Lib.run_append_grow_string (P := P) (w := w) t u ty e i z ht hu hi hz ⟨g, 0, none⟩ n cap xs (by rw [hsize]; omega) (fun j u hj => by rw [Addr.add_lit]; simpa using hr.cellAt hj) s (by omega) (by omega) (growslice_fits (by omega) (by rw [hby]; omega))
    have hge := grownCap_ge w (n + s.size) cap e
    have hcm : grownCap w (n + s.size) cap e ≤ maxLen := grownCap_le_maxLen w (n + s.size) cap e (by unfold maxLen; omega)
    refine ⟨_, _, hrun, ⟨w.heap.size, _, rfl, hB, by simp [hx, hsl], hcm, ?_⟩, (Below.refl B w).drew.alloc hB _⟩
    have hsz : (xs.toArray ++ (Lib.strCells s).toArray ++ Builtin.zeroCells z.cells (grownCap w (n + s.size) cap e - (n + s.size))).size = grownCap w (n + s.size) cap e := by
      simp only [Array.size_append, List.size_toArray, size_zeroCells, hzs]
      omega
    have := Row.new w.drew (xs.toArray ++ (Lib.strCells s).toArray ++ Builtin.zeroCells z.cells (grownCap w (n + s.size) cap e - (n + s.size))) e (xs ++ Lib.strCells s) (by rw [hsz]; simp; omega) (by
      simp only [Array.toList_append, List.append_assoc]
      rw [← List.append_assoc]
      exact List.take_left)
    rw [hsz] at this
    exact this
theorem wp_ap {ops : Array Oper} {rest : List Oper} {o : Oper} {a : Act} {w : World} {Q : Exit → Act → World → Prop} (hgd : o.guard = none) (s x : Operand) (t : TypeId)
    (ho : o.op = .call { callee := .builtin .append, args := #[s, x], argTypes := #[t, t] })
    (B : Nat) (e : TypeId) (i : TypeInfo) (z : Value) (ht : P.underlying t = some (.slice e)) (hi : P.info? e = some i) (hz : i.zero = some z) (hsize : i.size = 1) (hby : i.bytes = 1) (hzs : z.cells.size = 1)
    (v : Value) (n : Nat) (xs : List Value) (hs : a.eval s = v) (hown : Own w B e v n xs)
    (ad : Addr) (m c : Nat) (news : List Value) (hx : a.eval x = .slice (some ad) m c) (hl : news.length = m) (hnews : ∀ j u, news[j]? = some u → w.cell? (ad.add j) = some u) (h1 : ∀ u ∈ news, u.oneCell' = true)
    (hb : n + m ≤ 140737488355328) (hB : B ≤ w.heap.size)
    (h : ∀ v' w', Own w' B e v' (n + m) (xs ++ news) → Below B w w' → wpList P ops Q rest (a.put o.dst v') w') : wpList P ops Q (o :: rest) a w := by
  refine wpList_plain hgd fun K hK => ?_
  obtain ⟨v', w', hrun, h2, h3⟩ := run_append_Own (P := P) w B t o.type e i z ht hi hz hsize hby hzs v n xs hown ad m c news hl hnews h1 hb hB
  unfold Oper.wp
  simp [execOp, ho, resolve, invoke, builtin, hs, hx, hrun, Result.andThen]
  exact hK _ _ (h v' w' h2 h3)
theorem wp_apS {ops : Array Oper} {rest : List Oper} {o : Oper} {a : Act} {w : World} {Q : Exit → Act → World → Prop} (hgd : o.guard = none) (s x : Operand) (t u : TypeId)
    (ho : o.op = .call { callee := .builtin .append, args := #[s, x], argTypes := #[t, u] })
    (B : Nat) (e : TypeId) (i : TypeInfo) (z : Value) (ht : P.underlying t = some (.slice e)) (hu : P.underlying u = some .string) (hi : P.info? e = some i) (hz : i.zero = some z) (hsize : i.size = 1) (hby : i.bytes = 1) (hzs : z.cells.size = 1)
    (v : Value) (n : Nat) (xs : List Value) (hs : a.eval s = v) (hown : Own w B e v n xs)
    (q : ByteArray) (hx : a.eval x = .string q) (hb : n + q.size ≤ 140737488355328) (hB : B ≤ w.heap.size)
    (h : ∀ v' w', Own w' B e v' (n + q.size) (xs ++ Lib.strCells q) → Below B w w' → wpList P ops Q rest (a.put o.dst v') w') : wpList P ops Q (o :: rest) a w := by
  refine wpList_plain hgd fun K hK => ?_
  obtain ⟨v', w', hrun, h2, h3⟩ := run_append_OwnS (P := P) w B t u o.type e i z ht hu hi hz hsize hby hzs v n xs hown q hb hB
  unfold Oper.wp
  simp [execOp, ho, resolve, invoke, builtin, hs, hx, hrun, Result.andThen]
  exact hK _ _ (h v' w' h2 h3)
/-- '[]byte(s)' is such a slice. -/
theorem own_of_string (w : World) (src dst e : TypeId) (s : ByteArray) (hs : P.underlying src = some .string) (hd : P.underlying dst = some (.slice e)) (he : P.underlying e = some (.int .u8)) (hm : s.size ≤ maxLen) :
    ∃ v W1, (convert src dst (.string s)).run P w = .ok v W1 ∧ Own W1 w.heap.size e v s.size (Lib.strCells s) ∧ Below w.heap.size w W1 := by
  obtain ⟨row, hrow⟩ : ∃ row, row = bytesRow s (grownCap w s.size 0 e) := ⟨_, rfl⟩
  have hge := grownCap_ge w s.size 0 e
  have hrs : row.size = grownCap w s.size 0 e := by
    rw [hrow]
    have : s.data.size = s.size := rfl
    simp [bytesRow]
    omega
  have hrt : row.toList.take s.size = Lib.strCells s := by
    have hsz : s.data.toList.length = s.size := by rw [Array.length_toList]; rfl
    rw [hrow, bytesRow, Array.toList_append, Array.toList_map, List.take_append_of_le_length (by simp [hsz]), List.take_of_length_le (by simp [hsz])]
    rfl
  refine ⟨_, _, run_bytes_of_string w src dst e s hs hd he, ⟨w.heap.size, _, rfl, Nat.le_refl _, Lib.strCells_length s, grownCap_le_maxLen w _ _ _ hm, ?_⟩, (Below.refl _ _).drew.alloc (Nat.le_refl _) _⟩
  rw [← hrow]
  refine ⟨row, (row.size, row.size + 1), by show (w.heap.push _)[w.heap.size]? = _; simp, by omega, by rw [Lib.strCells_length]; omega, ?_, .inr (by show _ ≤ row.size; omega)⟩
  rw [Lib.strCells_length]; exact hrt
/-- 'string(b)' of such a slice of bytes. -/
theorem conv_Own (w : World) (src dst e : TypeId) (B n : Nat) (v : Value) (l : List UInt8) (h : Own w B e v n (l.map fun b => Value.int .u8 (b.toNat : Int)))
    (hs : P.underlying src = some (.slice e)) (he : P.underlying e = some (.int .u8)) (hd : P.underlying dst = some .string) :
    (convert src dst v).run P w = .ok (.string ⟨l.toArray⟩) w := by
  obtain ⟨g, cap, rfl, hg, hx, hm, hr⟩ := h
  exact conv_row w src dst e g e n cap l (by simpa using hx) hr hs he hd
end
end Go.Proofs.YtpophimnoakinaaDoor
/- Contracts of the document's own functions of SHA-256: pad, first, constants, Sum, Pad. -/
namespace Go.Proofs.YtpophimnoakinaaDoor
open Go.ChangeShapes Go.WideShapes Go.ChangeAt Go.RowKit
set_option linter.unusedVariables false
set_option linter.unusedSimpArgs false

theorem Tryd.infou8 : (Tryd.prog.info? 5).map (fun i => (i.zero, i.size, i.bytes)) = some (some (.int .u8 0), 1, 1) := by kernel_rfl

set_option maxRecDepth 100000 in
theorem first_any (w : World) : Calls Tryd.prog 48 #[] w fun e w' => e = .returned (.agg (u32s HL).toArray) ∧ Below w.heap.size w w' := by
  go_enter Tryd.func48, Tryd.ntmps48
  have A0 := Arr.new w (zs 8) 61
  go_wp2_with (refine wp_st rfl 61 (.tmp 0) (.tmp 1) rfl _ (u32s HL) rfl rfl A0 info8 (zs_length 8) rfl (u32s_one _) ?_)
  refine bodyPost_ret (v := .agg (u32s HL).toArray) (res_arr rfl _ _ _ rfl (A0.setRow (u32s HL)) Tryd.underlying61 info8 rfl) rfl ⟨rfl, below_setRow ((Below.refl _ _).alloc (Nat.le_refl _) _) _ (Nat.le_refl _) _⟩
set_option maxHeartbeats 2000000 in
set_option maxRecDepth 100000 in
theorem constants_any (w : World) : Calls Tryd.prog 49 #[] w fun e w' => e = .returned (.agg (u32s KL).toArray) ∧ Below w.heap.size w w' := by
  go_enter Tryd.func49, Tryd.ntmps49
  have A0 := Arr.new w (zs 64) 63
  go_wp2_with (refine wp_st rfl 63 (.tmp 0) (.tmp 1) rfl _ _ rfl rfl A0 info64 (zs_length 64) rfl (by simp [Value.oneCell']) ?_)
  refine bodyPost_ret (v := .agg (u32s KL).toArray) (res_arr rfl _ _ _ rfl (A0.setRow (u32s KL)) Tryd.underlying63 info64 rfl) rfl ⟨rfl, below_setRow ((Below.refl _ _).alloc (Nat.le_refl _) _) _ (Nat.le_refl _) _⟩

end Go.Proofs.YtpophimnoakinaaDoor
