/- The contract of codeAt of package primitive: the map that it makes out of the table of layouts, and which code a text begins with. -/
import Derived.Test.YtpophimnoakinaaDoorQlay
import Derived.Maps.OwnSet
import Derived.Maps.Own
import Derived.Maps.OwnOps
namespace Go.Proofs.YtpophimnoakinaaDoor
open Go.ChangeShapes Go.WideShapes Go.ChangeAt Go.RowKit Go.Maps
set_option linter.unusedVariables false
set_option linter.unusedSimpArgs false

theorem empty_str {a : ByteArray} (h : a = ⟨#[]⟩) : a.toList.isEmpty = true := by rw [h, ByteArray.toList_eq]; rfl
theorem full_str {a : ByteArray} (h : a ≠ ⟨#[]⟩) : a.toList.isEmpty = false := by
  cases hl : a.toList with
  | nil =>
    rw [ByteArray.toList_eq] at hl
    exact absurd (ByteArray.ext (Array.toList_inj.1 hl)) h
  | cons x l => rfl
/-- The number of the code that is just these characters; 0 if there is none. -/
def codeOf (l : List UInt8) : Nat :=
  if l = [69] then 1 else if l = [68] then 2 else if l = [66] then 3 else if l = [65] then 4 else if l = [48, 65] then 5 else if l = [77] then 6 else if l = [83] then 7 else if l = [49, 65, 65, 76] then 8 else 0
/-- The map behind j rounds. -/
def mapC : Nat → DataW Unit
  | 0 => .map []
  | j + 1 => if codeL j = [] then mapC j else (mapC j).put (.string (codeL j)) (.lit (.int .i64 j))
theorem mapC_isMap : ∀ j, IsMap (mapC j)
  | 0 => isMap_empty
  | j + 1 => by
    unfold mapC
    split
    · exact mapC_isMap j
    · exact (mapC_isMap j).put _ _
theorem mapC_nine : mapC 9 = ((((((((DataW.map [] : DataW Unit).put (.string [69]) (.lit (.int .i64 1))).put (.string [68]) (.lit (.int .i64 2))).put (.string [66]) (.lit (.int .i64 3))).put (.string [65]) (.lit (.int .i64 4))).put (.string [48, 65]) (.lit (.int .i64 5))).put (.string [77]) (.lit (.int .i64 6))).put (.string [83]) (.lit (.int .i64 7))).put (.string [49, 65, 65, 76]) (.lit (.int .i64 8)) := by
  rfl
theorem step_has {D : DataW Unit} (hD : IsMap D) (c l : List UInt8) (d : DataW Unit) : Maps.has (D.put (.string c) d) (.string l) = (decide (l = c) || Maps.has D (.string l)) := by
  by_cases h : l = c
  · subst h; rw [has_put_same hD (show WideAt.IsKeyLit (.string l) from trivial), decide_eq_true rfl]; rfl
  · rw [has_put_other (by intro e; cases e; exact h rfl), decide_eq_false h]; rfl
theorem step_at {D : DataW Unit} (hD : IsMap D) (c l : List UInt8) (d z : DataW Unit) : (D.put (.string c) d).atKey (.string l) z = if l = c then d else D.atKey (.string l) z := by
  by_cases h : l = c
  · subst h; rw [atKey_put_same hD (show WideAt.IsKeyLit (.string l) from trivial), if_pos rfl]
  · rw [atKey_put_other (by intro e; cases e; exact h rfl), if_neg h]
theorem has_nine (l : List UInt8) : Maps.has (mapC 9) (.string l) = decide (codeOf l ≠ 0) ∧ (mapC 9).atKey (.string l) (.lit (.int .i64 0)) = .lit (.int .i64 (codeOf l)) := by
  have i0 : IsMap (.map [] : DataW Unit) := isMap_empty
  have i1 := i0.put (.string [69]) (.lit (.int .i64 1))
  have i2 := i1.put (.string [68]) (.lit (.int .i64 2))
  have i3 := i2.put (.string [66]) (.lit (.int .i64 3))
  have i4 := i3.put (.string [65]) (.lit (.int .i64 4))
  have i5 := i4.put (.string [48, 65]) (.lit (.int .i64 5))
  have i6 := i5.put (.string [77]) (.lit (.int .i64 6))
  have i7 := i6.put (.string [83]) (.lit (.int .i64 7))
  rw [mapC_nine, step_has i7, step_has i6, step_has i5, step_has i4, step_has i3, step_has i2, step_has i1, step_has i0, step_at i7, step_at i6, step_at i5, step_at i4, step_at i3, step_at i2, step_at i1, step_at i0,
    show Maps.has (.map [] : DataW Unit) (.string l) = false from rfl, show (.map [] : DataW Unit).atKey (.string l) (.lit (.int .i64 0)) = .lit (.int .i64 0) from rfl]
  unfold codeOf
  by_cases h1 : l = [69]
  · subst h1; exact ⟨by decide, rfl⟩
  · by_cases h2 : l = [68]
    · subst h2; exact ⟨by decide, rfl⟩
    · by_cases h3 : l = [66]
      · subst h3; exact ⟨by decide, rfl⟩
      · by_cases h4 : l = [65]
        · subst h4; exact ⟨by decide, rfl⟩
        · by_cases h5 : l = [48, 65]
          · subst h5; exact ⟨by decide, rfl⟩
          · by_cases h6 : l = [77]
            · subst h6; exact ⟨by decide, rfl⟩
            · by_cases h7 : l = [83]
              · subst h7; exact ⟨by decide, rfl⟩
              · by_cases h8 : l = [49, 65, 65, 76]
                · subst h8; exact ⟨by decide, rfl⟩
                · simp [h1, h2, h3, h4, h5, h6, h7, h8]

theorem codeOf_le (l : List UInt8) : codeOf l ≤ 8 := by unfold codeOf; (repeat' split) <;> omega
theorem codeOf_spec (l : List UInt8) (h : codeOf l ≠ 0) : l = codeL (codeOf l) := by
  unfold codeOf at h ⊢
  (repeat' split) <;> first | assumption | (exfalso; simp_all)
theorem codeOf_code (n : Nat) (h1 : 1 ≤ n) (h8 : n ≤ 8) : codeOf (codeL n) = n := by
  rcases eight_codes h1 h8 with rfl | rfl | rfl | rfl | rfl | rfl | rfl | rfl <;> decide

/-- What stands at the first j bytes of a text. -/
def hereP (t : ByteArray) (j : Nat) : Nat := codeOf (t.data.toList.take j)
theorem hit_take (t : ByteArray) (c : Nat) : hitP t c = decide (t.data.toList.take (codeL c).length = codeL c) := by
  unfold hitP
  apply decide_eq_decide.2
  have hl := len_is t
  constructor
  · rintro ⟨h1, h2⟩
    have h3 := congrArg (fun b : ByteArray => b.data.toList) h2
    simp only [ext_data, List.drop_zero] at h3
    exact h3
  · intro h
    have h1 := congrArg List.length h
    rw [List.length_take] at h1
    refine ⟨by omega, ?_⟩
    apply ByteArray.ext
    apply Array.toList_inj.1
    rw [ext_data]
    simpa using h
/-- A code that the first j bytes are is the only one with which the text begins. -/
theorem hit_only (t : ByteArray) (c d : Nat) (c1 : 1 ≤ c) (c8 : c ≤ 8) (d1 : 1 ≤ d) (d8 : d ≤ 8) (hc : hitP t c = true) (hd : hitP t d = true) : c = d := by
  rw [hit_take, decide_eq_true_eq] at hc hd
  have key : ∀ a b : Nat, a ≤ b → t.data.toList.take a = (t.data.toList.take b).take a := fun a b h => by rw [List.take_take, Nat.min_eq_left h]
  rcases Nat.le_total (codeL c).length (codeL d).length with h | h
  · have e := key _ _ h
    rw [hc, hd] at e
    rcases eight_codes c1 c8 with rfl | rfl | rfl | rfl | rfl | rfl | rfl | rfl <;> rcases eight_codes d1 d8 with rfl | rfl | rfl | rfl | rfl | rfl | rfl | rfl <;> first | rfl | (exfalso; revert e; decide)
  · have e := key _ _ h
    rw [hc, hd] at e
    rcases eight_codes c1 c8 with rfl | rfl | rfl | rfl | rfl | rfl | rfl | rfl <;> rcases eight_codes d1 d8 with rfl | rfl | rfl | rfl | rfl | rfl | rfl | rfl <;> first | rfl | (exfalso; revert e; decide)
theorem here_hit (t : ByteArray) (j : Nat) (hj : j ≤ t.size) (h : hereP t j ≠ 0) : hitP t (hereP t j) = true := by
  rw [hit_take, decide_eq_true_eq]
  have e : t.data.toList.take j = codeL (hereP t j) := codeOf_spec _ h
  have hl := congrArg List.length e
  rw [List.length_take, len_is, Nat.min_eq_left hj] at hl
  rw [← hl]
  exact e
theorem hit_here (t : ByteArray) (c : Nat) (h1 : 1 ≤ c) (h8 : c ≤ 8) (h : hitP t c = true) : hereP t (codeL c).length = c ∧ 1 ≤ (codeL c).length ∧ (codeL c).length ≤ 4 ∧ (codeL c).length ≤ t.size := by
  have h' := h
  rw [hit_take, decide_eq_true_eq] at h
  unfold hitP at h'
  rw [decide_eq_true_eq] at h'
  refine ⟨by unfold hereP; rw [h]; exact codeOf_code c h1 h8, ?_, ?_, h'.1⟩
  · rcases eight_codes h1 h8 with rfl | rfl | rfl | rfl | rfl | rfl | rfl | rfl <;> decide
  · rcases eight_codes h1 h8 with rfl | rfl | rfl | rfl | rfl | rfl | rfl | rfl <;> decide

/-- The code with which a text begins; 0 if there is none. -/
def firstP (t : ByteArray) : Nat := match (List.range 8).find? (fun i => hitP t (i + 1)) with | none => 0 | some i => i + 1
theorem find_hit {t : ByteArray} {i : Nat} (h : (List.range 8).find? (fun i => hitP t (i + 1)) = some i) : hitP t (i + 1) = true ∧ i < 8 := by
  rw [List.find?_range_eq_some] at h
  exact ⟨h.1, by simpa using h.2.1⟩
theorem firstP_hit (t : ByteArray) (c : Nat) (h1 : 1 ≤ c) (h8 : c ≤ 8) (h : hitP t c = true) : firstP t = c := by
  unfold firstP
  cases hf : (List.range 8).find? (fun i => hitP t (i + 1)) with
  | none =>
    rw [List.find?_eq_none] at hf
    have := hf (c - 1) (by simp; omega)
    rw [show c - 1 + 1 = c by omega] at this
    exact absurd h this
  | some i =>
    obtain ⟨hh, hi⟩ := find_hit hf
    exact hit_only t (i + 1) c (by omega) (by omega) h1 h8 hh h
theorem firstP_here (t : ByteArray) (j : Nat) (hj : j ≤ t.size) (h : hereP t j ≠ 0) : firstP t = hereP t j :=
  firstP_hit t _ (by omega) (codeOf_le _) (here_hit t j hj h)
theorem firstP_none (t : ByteArray) (h : ∀ k, 1 ≤ k → k ≤ 4 → k ≤ t.size → hereP t k = 0) : firstP t = 0 := by
  unfold firstP
  cases hf : (List.range 8).find? (fun i => hitP t (i + 1)) with
  | none => rfl
  | some i =>
    obtain ⟨hh, hi⟩ := find_hit hf
    obtain ⟨a, b, c, d⟩ := hit_here t (i + 1) (by omega) (by omega) hh
    have := h _ b c d
    omega
theorem firstP_le (t : ByteArray) : firstP t ≤ 8 := by
  unfold firstP
  cases hf : (List.range 8).find? (fun i => hitP t (i + 1)) with
  | none => simp
  | some i => have := (find_hit hf).2; simp; omega

/-- The cells of the table of layouts, in their order. -/
def layAll : List Value := (List.range 9).flatMap fun i => [.string ⟨(codeL i).toArray⟩, .int .i64 (rawN i)]
theorem layAll_get (j : Nat) (h : j < 9) : layAll[j * 2]? = some (.string ⟨(codeL j).toArray⟩) ∧ layAll[j * 2 + 1]? = some (.int .i64 (rawN j)) := by
  obtain rfl | rfl | rfl | rfl | rfl | rfl | rfl | rfl | rfl : j = 0 ∨ j = 1 ∨ j = 2 ∨ j = 3 ∨ j = 4 ∨ j = 5 ∨ j = 6 ∨ j = 7 ∨ j = 8 := by omega
  all_goals exact ⟨rfl, rfl⟩
theorem layAll_length : layAll.length = 18 := rfl
theorem layAll_part (j : Nat) (h : j < 9) : layAll.toArray.extract (j * 2) (j * 2 + 2) = #[.string ⟨(codeL j).toArray⟩, .int .i64 (rawN j)] := by
  obtain rfl | rfl | rfl | rfl | rfl | rfl | rfl | rfl | rfl : j = 0 ∨ j = 1 ∨ j = 2 ∨ j = 3 ∨ j = 4 ∨ j = 5 ∨ j = 6 ∨ j = 7 ∨ j = 8 := by omega
  all_goals rfl
theorem layAll_cells {w : World} (h : Lay w) : ∀ j v, layAll[j]? = some v → w.cell? ⟨1, j, none⟩ = some v := by
  intro j v hv
  have hj : j < 18 := by
    rcases Nat.lt_or_ge j 18 with h | h
    · exact h
    · rw [List.getElem?_eq_none (by rw [layAll_length]; exact h)] at hv; cases hv
  rcases Nat.mod_two_eq_zero_or_one j with e | e
  · obtain ⟨i, rfl⟩ : ∃ i, j = i * 2 := ⟨j / 2, by omega⟩
    rw [(layAll_get i (by omega)).1] at hv
    cases hv
    exact (h i (by omega)).1
  · obtain ⟨i, rfl⟩ : ∃ i, j = i * 2 + 1 := ⟨j / 2, by omega⟩
    rw [(layAll_get i (by omega)).2] at hv
    cases hv
    exact (h i (by omega)).2

section
variable {P : Program}
/-- A variable of many cells is read whole, cell by cell. -/
theorem run_load_cells (w : World) (g : Nat) (ty : TypeId) (cs : List Value) (d : TypeDesc) (hc : ∀ j v, cs[j]? = some v → w.cell? ⟨g, j, none⟩ = some v)
    (hu : P.underlying ty = some d) (hd : (match d with | .struct _ | .array _ _ => true | _ => false) = true) (hi : (P.info? ty).map (·.size) = some cs.length) :
    (loadVar ty ⟨g, 0, none⟩).run P w = .ok (.agg cs.toArray) w := by
  have hl : (loadCells ⟨g, 0, none⟩ cs.length).run P w = .ok cs.toArray w :=
    run_loadCells_list (P := P) w ⟨g, 0, none⟩ cs (fun j v hv => by
      rw [Addr.add_lit, Nat.zero_add]
      exact hc j v hv)
  cases hq : P.info? ty with
  | none => simp [hq] at hi
  | some i =>
    have hs : i.size = cs.length := by simpa [hq] using hi
    have hagg : (isAgg ty).run P w = .ok true w := by
      unfold isAgg
      rw [Sem.run_bind, run_underlying hu w]
      cases d <;> simp_all
    simp [loadVar, Sem.run_bind, hagg, sizeOf, typeInfo, hq, hs, hl]
theorem wp_ldc {ops : Array Oper} {rest : List Oper} {o : Oper} {a : Act} {w : World} {Q : Exit → Act → World → Prop} (hgd : o.guard = none) (ty : TypeId) (x : Operand) (ho : o.op = .load ty x)
    (g : Nat) (hx : a.eval x = .pointer (some ⟨g, 0, none⟩)) (cs : List Value) (hc : ∀ j v, cs[j]? = some v → w.cell? ⟨g, j, none⟩ = some v) (d : TypeDesc) (hu : P.underlying ty = some d)
    (hd : (match d with | .struct _ | .array _ _ => true | _ => false) = true) (hi : (P.info? ty).map (·.size) = some cs.length)
    (K : wpList P ops Q rest (a.put o.dst (.agg cs.toArray)) w) : wpList P ops Q (o :: rest) a w := by
  refine wpList_plain hgd fun _ hK => ?_
  unfold Oper.wp execOp
  simp only [ho, hx, Instr.loadAt, Instr.sureAddr, Sem.run_bind, Sem.run_pure, Result.andThen_ok, run_load_cells w g ty cs d hc hu hd hi]
  exact hK _ _ K
/-- An element, itself of several cells, of an array that is held as a value. -/
theorem run_index_part (t e : TypeId) (n s : Nat) (cs : Array Value) (j : Nat) (h : P.underlying t = some (.array n e)) (hj : j < n) (hag : ∀ w, (isAgg e).run P w = .ok true w) (hsz : ∀ w, (sizeOf e).run P w = .ok s w) (w : World) :
    (Instr.index t (.agg cs) (.int .i64 (j : Int))).run P w = .ok (.agg (cs.extract (j * s) (j * s + s))) w := by
  have h0 : (0 ≤ (j : Int) ∧ (j : Int) < (n : Int)) := ⟨by omega, by omega⟩
  have hp : ∀ k, (part e cs k).run P w = .ok (.agg (cs.extract k (k + s))) w := by
    intro k
    simp only [part, Sem.run_bind, hsz, hag, Result.andThen_ok]
    simp [Sem.run_bind, hsz]
  simp [Instr.index, asIntOf, run_underlying h, h0, hsz, hp, Result.andThen]
  omega
/-- 'v, ok := m[k]' where it is known what stands there. -/
theorem wp_look {H : Type} (w : World) {ops : Array Oper} {rest : List Oper} {o : Oper} {a : Act} {Q : Exit → Act → World → Prop} (hg : o.guard = none) (m x : Operand) (t : TypeId) (hop : o.op = Op.lookup t m x true)
    (k e : TypeId) (q : IntKind) (K : Keyed P k) (ht : P.underlying t = some (.map k e)) (he : P.underlying e = some (.int q)) (hz : (zeroValue e).run P w = .ok (.int q 0) w) (b n : Nat) (D : DataW H)
    (hm : a.eval m = .map (some b)) (hown : w.ownsMap P k (plainElem P e) b n D) (key : Value) (kl : Lit) (hx : a.eval x = key) (hkey : keyOf P k key = some kl)
    (c : Int) (y : Bool) (hc : D.atKey kl (.lit (.int q 0)) = .lit (.int q c)) (hy : Maps.has D kl = y)
    (hK : wpList P ops Q rest (a.put o.dst (.tuple #[.int q c, .bool y])) w) : wpList P ops Q (o :: rest) a w :=
  wpList_lookup_own_ok_int w hg m x t hop k e q K ht he hz b n D hm hown key kl hx hkey (fun c' hat _ => by rw [hc] at hat; cases hat; rw [hy]; exact hK)
end

end Go.Proofs.YtpophimnoakinaaDoor
