/- A region that draws its order, walked by a plan: first what yields one value in whatever world, or in each world that meets S (loads); then a tree of the orders that the draw allows. S is to be shown again behind an operation only as long as no operation has come up that waits for all those loads. For every program. -/
import Derived.OrdersHeld
import Derived.StillTailTactics
import Derived.WalkKit
namespace Go.Proofs.Ytefhhfpdponabaa
open Go
set_option linter.unusedVariables false
set_option linter.unusedSimpArgs false

section
variable {P : Program} {ops : Array Oper} {md : Region.Mode} {Q : Exit → Act → World → Prop} {S : World → Prop} {hs : List Nat}

/-- What an operation waits for, as a number's bits: its own edges, and what those wait for (ms). -/
def maskOf (md : Region.Mode) (ms : List Nat) (o : Oper) : Nat := o.after.toList.foldl (fun m e => if Region.binds md e then m ||| (2 ^ e.on ||| ms.getD e.on 0) else m) 0
def masks (md : Region.Mode) (ops : Array Oper) : Nat → List Nat
  | 0 => []
  | n + 1 => masks md ops n ++ [match ops[n]? with
    | some o => maskOf md (masks md ops n) o
    | none => 0]
/-- Does j wait for i? -/
def waits (md : Region.Mode) (ops : Array Oper) (j i : Nat) : Bool := ((masks md ops ops.size).getD j 0).testBit i
theorem bit_maskOf {ms : List Nat} {o : Oper} {i : Nat} (h : (maskOf md ms o).testBit i = true) : ∃ e ∈ o.after, Region.binds md e = true ∧ (e.on = i ∨ (ms.getD e.on 0).testBit i = true) := by
  have gen : ∀ (l : List Edge) (m : Nat), (l.foldl (fun m e => if Region.binds md e then m ||| (2 ^ e.on ||| ms.getD e.on 0) else m) m).testBit i = true → m.testBit i = true ∨ ∃ e ∈ l, Region.binds md e = true ∧ (e.on = i ∨ (ms.getD e.on 0).testBit i = true) := by
    intro l
    induction l with
    | nil => exact fun m h => .inl h
    | cons e l ih =>
      intro m h
      rcases ih _ h with h | ⟨e', he', h'⟩
      · dsimp only at h
        by_cases hb : Region.binds md e = true
        · rw [if_pos hb, Nat.testBit_or, Nat.testBit_or, Bool.or_eq_true, Bool.or_eq_true] at h
          rcases h with h | h | h
          · exact .inl h
          · refine .inr ⟨e, .head _, hb, .inl ?_⟩
            rw [Nat.testBit_two_pow] at h
            exact of_decide_eq_true h
          · exact .inr ⟨e, .head _, hb, .inr h⟩
        · rw [if_neg hb] at h
          exact .inl h
      · exact .inr ⟨e', .tail _ he', h'⟩
  rcases gen _ 0 h with h | ⟨e, he, h⟩
  · rw [Nat.zero_testBit] at h; cases h
  · exact ⟨e, Array.mem_toList_iff.1 he, h⟩
theorem masks_length : ∀ n, (masks md ops n).length = n
  | 0 => rfl
  | n + 1 => by rw [masks, List.length_append, masks_length n]; rfl
theorem masks_get : ∀ (n j : Nat), j < n → (masks md ops n).getD j 0 = (match ops[j]? with
    | some o => maskOf md (masks md ops j) o
    | none => 0)
  | n + 1, j, hj => by
    rw [masks, List.getD_eq_getElem?_getD]
    by_cases h : j < n
    · rw [List.getElem?_append_left (by rw [masks_length]; exact h), ← List.getD_eq_getElem?_getD]
      exact masks_get n j h
    · obtain rfl : j = n := by omega
      rw [List.getElem?_append_right (by rw [masks_length]; exact Nat.le_refl _), masks_length, Nat.sub_self]
      rfl
theorem waits_step {j i : Nat} : ∀ n, ((masks md ops n).getD j 0).testBit i = true → j < n ∧ ∃ o, ops[j]? = some o ∧ ∃ e ∈ o.after, Region.binds md e = true ∧ (e.on = i ∨ ((masks md ops j).getD e.on 0).testBit i = true) := by
  intro n h
  rcases Nat.lt_or_ge j n with hj | hj
  · rw [masks_get n j hj] at h
    cases ho : ops[j]? with
    | none => rw [ho] at h; simp at h
    | some o => rw [ho] at h; exact ⟨hj, o, rfl, bit_maskOf h⟩
  · rw [List.getD_eq_getElem?_getD, List.getElem?_eq_none (by rw [masks_length]; exact hj)] at h
    simp at h
/-- j waits for all of hs. -/
def lateB (md : Region.Mode) (ops : Array Oper) (hs : List Nat) (j : Nat) : Bool := hs.all fun i => waits md ops j i
def Shut (md : Region.Mode) (ops : Array Oper) (listed : Array Bool) : Prop :=
  ∀ j oj, ops[j]? = some oj → listed.getD j false = true → ∀ e ∈ oj.after, Region.binds md e = true → listed.getD e.on false = true
/-- Nothing that waits for all of hs has come up. -/
def Opn (md : Region.Mode) (ops : Array Oper) (hs : List Nat) (listed : Array Bool) : Prop := ∀ j, lateB md ops hs j = true → listed.getD j false = false
def opnB (md : Region.Mode) (ops : Array Oper) (hs : List Nat) (listed : Array Bool) : Bool := (List.range ops.size).all fun j => !lateB md ops hs j || !listed.getD j false
theorem not_opn {listed : Array Bool} (h : opnB md ops hs listed = false) : ¬ Opn md ops hs listed := fun ho => by
  have : opnB md ops hs listed = true := List.all_eq_true.2 fun j _ => by
    cases hl : lateB md ops hs j with
    | false => rfl
    | true => simp [ho j hl]
  rw [h] at this
  cases this
theorem mask_listed {listed : Array Bool} (hc : Shut md ops listed) (i : Nat) : ∀ (m j n : Nat) (oj : Oper), j ≤ m → ops[j]? = some oj → (∀ e ∈ oj.after, Region.binds md e = true → listed.getD e.on false = true) → ((masks md ops n).getD j 0).testBit i = true → listed.getD i false = true := by
  intro m
  induction m with
  | zero =>
    intro j n oj hm hj hall h
    obtain ⟨hjn, o, ho, e, he, hb, h1 | h1⟩ := waits_step n h
    · rw [hj] at ho; cases ho
      rw [← h1]; exact hall e he hb
    · obtain ⟨h2, -⟩ := waits_step j h1
      omega
  | succ m ih =>
    intro j n oj hm hj hall h
    obtain ⟨hjn, o, ho, e, he, hb, h1 | h1⟩ := waits_step n h
    · rw [hj] at ho; cases ho
      rw [← h1]; exact hall e he hb
    · rw [hj] at ho; cases ho
      obtain ⟨h2, oe, hoe, -⟩ := waits_step j h1
      exact ih e.on j oe (by omega) hoe (hc e.on oe hoe (hall e he hb)) h1
theorem waits_listed {listed : Array Bool} (hc : Shut md ops listed) (j i : Nat) (oj : Oper) (hj : ops[j]? = some oj) (hall : ∀ e ∈ oj.after, Region.binds md e = true → listed.getD e.on false = true) (h : waits md ops j i = true) : listed.getD i false = true :=
  mask_listed hc i j j ops.size oj (Nat.le_refl _) hj hall h
theorem Shut.set {listed : Array Bool} (hc : Shut md ops listed) {i : Nat} (hr : i ∈ Region.ready md ops listed) : Shut md ops (listed.setIfInBounds i true) := by
  intro j oj hj hl e he hb
  by_cases hij : i = j
  · subst hij
    obtain ⟨_, o, ho, hall⟩ := mem_ready.1 hr
    rw [hj] at ho
    cases ho
    exact getD_set_true (hall e he hb)
  · rw [getD_set_ne false hij] at hl
    exact getD_set_true (hc j oj hj hl e he hb)
theorem Shut.start (n : Nat) : Shut md ops (Array.replicate n false) := by
  intro j oj hj hl
  rw [Array.getD_eq_getD_getElem?, Array.getElem?_replicate] at hl
  split at hl <;> simp at hl
theorem Opn.back {listed : Array Bool} {i : Nat} (h : Opn md ops hs (listed.setIfInBounds i true)) : Opn md ops hs listed := fun j hl => by
  have := h j hl
  by_cases hij : i = j
  · subst hij
    cases hg : listed.getD i false with
    | false => rfl
    | true => rw [getD_set_true hg] at this; cases this
  · rw [getD_set_ne false hij] at this; exact this
theorem Opn.on {listed : Array Bool} {i : Nat} (h : Opn md ops hs listed) (hi : lateB md ops hs i = false) : Opn md ops hs (listed.setIfInBounds i true) := fun j hl => by
  by_cases hij : i = j
  · subst hij; rw [hi] at hl; cases hl
  · rw [getD_set_ne false hij]; exact h j hl

/-- Whatever order is picked from here on, and S behind each operation as long as nothing late has come up. -/
def wpAnyL (P : Program) (md : Region.Mode) (ops : Array Oper) (Q : Exit → Act → World → Prop) (S : World → Prop) (hs : List Nat) : Nat → Array Bool → Act → World → Prop
  | 0, listed, a, w => Region.ready md ops listed = [] ∧ Q .normal a w
  | fuel + 1, listed, a, w =>
    (Region.ready md ops listed = [] → Q .normal a w) ∧
    ∀ i ∈ Region.ready md ops listed, wpOp P ops Q i (fun a' w' => (Opn md ops hs (listed.setIfInBounds i true) → S w') ∧ wpAnyL P md ops Q S hs fuel (listed.setIfInBounds i true) a' w') a w
theorem wpAny_of_l : ∀ (fuel : Nat) (listed : Array Bool) (a : Act) (w : World), wpAnyL P md ops Q S hs fuel listed a w → wpAny P md ops Q fuel listed a w
  | 0, _, _, _, h => h
  | fuel + 1, _, _, _, h => ⟨h.1, fun i hi => wpOp_mono (fun a' w' h' => wpAny_of_l fuel _ a' w' h'.2) (h.2 i hi)⟩
theorem wpAnyL_done {listed : Array Bool} {a : Act} {w : World} (hr : Region.ready md ops listed = []) (h : Q .normal a w) : ∀ fuel, wpAnyL P md ops Q S hs fuel listed a w
  | 0 => ⟨hr, h⟩
  | _ + 1 => ⟨fun _ => h, by rw [hr]; simp⟩

/-- What yields one value in each world that meets S0 may be taken first. -/
theorem wpAnyL_first {S0 : World → Prop} {i : Nat} {oi : Oper} {v : Value} (hi : ops[i]? = some oi) (hsel : ∀ (j : Nat) (o : Oper) cs b, ops[j]? = some o → o.op ≠ .select cs b)
    (hQ : ∀ c a w, Q (.panic c) (a.put oi.dst v) w → Q (.panic c) a w) (h0 : (∀ w, S0 w) ∨ (i ∈ hs ∧ ∀ w, S w → S0 w)) :
    ∀ (fuel : Nat) (listed : Array Bool) (a : Act) (w : World), Shut md ops listed → (lateB md ops hs i = false ∨ hs = [] ∨ ¬ Opn md ops hs listed) →
      (∀ j oj, ops[j]? = some oj → j ≠ i → listed.getD j true = false → (∀ e ∈ oj.after, Region.binds md e = true → e.on ≠ i) → oi.apart ops oj = true) →
      i ∈ Region.ready md ops listed → YieldsIf P ops S0 oi v a → (Opn md ops hs listed → S w) →
      wpAnyL P md ops Q S hs fuel (listed.setIfInBounds i true) (a.put oi.dst v) w → wpAnyL P md ops Q S hs (fuel + 1) listed a w := by
  -- as long as i has not come up, nothing late has, if i is one of hs
  have hop : ∀ {listed : Array Bool}, Shut md ops listed → i ∈ Region.ready md ops listed → i ∈ hs → Opn md ops hs listed := by
    intro listed hsh hr him j hl
    cases hg : listed.getD j false with
    | false => rfl
    | true =>
      have hun := (mem_ready.1 hr).1
      have hw := List.all_eq_true.1 hl i him
      cases hoj : ops[j]? with
      | none =>
        exfalso
        obtain ⟨-, o, ho, -⟩ := waits_step _ (show ((masks md ops ops.size).getD j 0).testBit i = true from hw)
        rw [hoj] at ho; cases ho
      | some oj =>
        have := waits_listed hsh j i oj hoj (hsh j oj hoj hg) hw
        rcases Nat.lt_or_ge i listed.size with h' | h'
        · simp [h'] at this hun; rw [hun] at this; cases this
        · simp [Array.getElem?_eq_none h'] at this
  have hS0 : ∀ {listed : Array Bool} {w : World}, Shut md ops listed → i ∈ Region.ready md ops listed → (Opn md ops hs listed → S w) → S0 w := fun hsh hr hS => by
    rcases h0 with h0 | h0
    · exact h0 _
    · exact h0.2 _ (hS (hop hsh hr h0.1))
  intro fuel
  induction fuel with
  | zero =>
    intro listed a w hsh _ _ hr hy hS H
    refine ⟨fun h => (by rw [h] at hr; cases hr), fun j hj => ?_⟩
    by_cases hji : j = i
    · subst hji; exact hy.wpOp hi (hS0 hsh hr hS) ⟨fun ho => hS ho.back, H⟩
    · have := ready_mono hj hji
      rw [H.1] at this
      cases this
  | succ fuel ih =>
    intro listed a w hsh hnl hfree hr hy hS H
    refine ⟨fun h => (by rw [h] at hr; cases hr), fun j hj => ?_⟩
    by_cases hji : j = i
    · subst hji; exact hy.wpOp hi (hS0 hsh hr hS) ⟨fun ho => hS ho.back, H⟩
    · have h1 := H.2 j (ready_mono hj hji)
      obtain ⟨hjun, oj, hoj, hall⟩ := mem_ready.1 hj
      have hnot : ∀ e ∈ oj.after, Region.binds md e = true → e.on ≠ i := fun e he hb heq => by
        have h1 := hall e he hb
        have h0 := (mem_ready.1 hr).1
        rw [heq] at h1
        rcases Nat.lt_or_ge i listed.size with h' | h'
        · simp [h'] at h0 h1; rw [h0] at h1; cases h1
        · simp [Array.getElem?_eq_none h'] at h1
      have h2 := wpOp_putIf hoj (hfree j oj hoj hji hjun hnot) (fun cs b => hsel i oi cs b hi) (fun cs b => hsel j oj cs b hoj) hQ hy h1
      have hfree' : ∀ k ok, ops[k]? = some ok → k ≠ i → (listed.setIfInBounds j true).getD k true = false →
          (∀ e ∈ ok.after, Region.binds md e = true → e.on ≠ i) → oi.apart ops ok = true := fun k ok hk hki hun hno => by
        refine hfree k ok hk hki ?_ hno
        by_cases hjk : j = k
        · subst hjk; exact hjun
        · rw [getD_set_ne true hjk] at hun; exact hun
      refine wpOp_mono (fun a' w' h3 => ?_) h2
      have hS' : Opn md ops hs (listed.setIfInBounds j true) → S w' := fun ho => by
        rcases hnl with hnl | rfl | hno
        · exact h3.2.1 (by rw [Array.setIfInBounds_comm _ _ (Ne.symm hji)]; exact ho.on hnl)
        · have h9 := ho j rfl
          rcases Nat.lt_or_ge j listed.size with h' | h'
          · simp [h'] at h9
          · simp [Array.getElem?_eq_none h'] at hjun
        · exact (hno ho.back).elim
      have hnl' : lateB md ops hs i = false ∨ hs = [] ∨ ¬ Opn md ops hs (listed.setIfInBounds j true) := by
        rcases hnl with hnl | hnl | hno
        · exact .inl hnl
        · exact .inr (.inl hnl)
        · exact .inr (.inr fun ho => hno ho.back)
      refine ⟨hS', ih (listed.setIfInBounds j true) a' w' (hsh.set hj) hnl' hfree' (ready_mono hr (Ne.symm hji)) h3.1 hS' ?_⟩
      rw [Array.setIfInBounds_comm _ _ hji]
      exact h3.2.2

/-! ### the plan -/
/-- 'take k p': k is taken first, then p. 'ask k s p alt': k comes up, behind it p; or else one of alt; s: S is to be shown behind k. -/
inductive Plan where
  | stop
  | take (k : Nat) (p : Plan)
  | ask (k : Nat) (s : Bool) (p alt : Plan)
namespace Plan
def heads : Plan → List Nat
  | .stop => []
  | .take _ _ => []
  | .ask k _ _ alt => k :: alt.heads
def deep : Plan → Nat
  | .stop => 0
  | .take _ p => p.deep + 1
  | .ask _ _ p alt => max (p.deep + 1) alt.deep
/-- 'top': the plan stands by itself; else it is the rest of the alternatives. -/
def chk (md : Region.Mode) (ops : Array Oper) (hs : List Nat) : Bool → Plan → Array Bool → Bool
  | top, .stop, l => !top || (Region.ready md ops l).isEmpty
  | top, .take k p, l => top && (Region.ready md ops l).contains k && Region.free md ops l k && (!lateB md ops hs k || hs.isEmpty || !opnB md ops hs l) && chk md ops hs true p (l.setIfInBounds k true)
  | top, .ask k s p alt, l => (!top || decide (Region.ready md ops l = k :: alt.heads)) && (s || !opnB md ops hs (l.setIfInBounds k true)) && chk md ops hs true p (l.setIfInBounds k true) && chk md ops hs false alt l
/-- p behind each end of t. -/
def join : Bool → Plan → Plan → Plan
  | true, .stop, p => p
  | false, .stop, _ => .stop
  | _, .take k q, p => .take k (join true q p)
  | _, .ask k s q alt, p => .ask k s (join true q p) (join false alt p)
end Plan
/-- One operation, and what follows it. -/
def Seg (K : Act → World → Prop) (Q : Exit → Act → World → Prop) : Exit → Act → World → Prop
  | .normal, a, w => K a w
  | e, a, w => Q e a w
def wpPlan (P : Program) (ops : Array Oper) (Q : Exit → Act → World → Prop) (S : World → Prop) (hs : List Nat) : Bool → Plan → Act → World → Prop
  | true, .stop, a, w => Q .normal a w
  | false, .stop, _, _ => True
  | _, .take k p, a, w => ∃ o v, ops[k]? = some o ∧ YieldsIf P ops (fun w => k ∈ hs → S w) o v a ∧ wpPlan P ops Q S hs true p (a.put o.dst v) w
  | _, .ask k s p alt, a, w => wpOp P ops Q k (fun a' w' => (s = true → S w') ∧ wpPlan P ops Q S hs true p a' w') a w ∧ wpPlan P ops Q S hs false alt a w

/-- Slots written since. -/
def puts (a : Act) : List Nat → List Value → Act
  | s :: ss, v :: vs => puts (a.put (some s) v) ss vs
  | _, _ => a
/-- Where the ways of a tree meet: what is known of the slots that it has written, and of the world. -/
def Meet (a : Act) (ss : List Nat) (rel : List Value → World → Prop) (Q : Exit → Act → World → Prop) : Exit → Act → World → Prop
  | .normal, a', w => ∃ vs, rel vs w ∧ a' = puts a ss vs
  | e, a', w => Q e a' w
theorem meet_op {k : Nat} {K : Act → World → Prop} {a0 : Act} {ss : List Nat} {rel : List Value → World → Prop} {a : Act} {w : World} (h : wpOp P ops (Meet a0 ss rel Q) k K a w) : wpOp P ops Q k K a w := by
  have hl : LetsOut (Meet a0 ss rel Q) → LetsOut Q := fun ⟨a, w, h⟩ => ⟨a, w, h⟩
  unfold wpOp at *
  split
  · rename_i ho
    simpa only [ho] using h
  · rename_i o ho
    simp only [ho] at h
    split
    · rename_i hw
      rw [if_pos hw] at h
      rcases h with h | h
      · refine .inl ?_
        unfold Oper.wp at *
        generalize (execOp a.eval o).run P w = r at *
        cases r with
        | ok n w' =>
          cases n <;> simp only [Oper.upon] at h ⊢ <;>
            first
              | exact h
              | exact Calls.mono h (fun e w'' he => by cases e <;> first | exact he | exact hl he)
              | exact Rows.mono h (fun _ _ he => he)
        | halt x w' => cases x <;> simp only [Oper.upon] at h ⊢ <;> exact h
      · exact .inr ⟨h.1, hl h.2⟩
    · rename_i hw
      rw [if_neg hw] at h
      exact h
theorem plan_join {a0 : Act} {ss : List Nat} {rel : List Value → World → Prop} {p : Plan} (h2 : ∀ vs w', rel vs w' → wpPlan P ops Q S hs true p (puts a0 ss vs) w') : ∀ (b : Bool) (t : Plan) (a : Act) (w : World), wpPlan P ops (Meet a0 ss rel Q) S hs b t a w → wpPlan P ops Q S hs b (Plan.join b t p) a w
  | true, .stop, a, w, h => by
    obtain ⟨vs, hr, rfl⟩ := h
    exact h2 vs w hr
  | false, .stop, a, w, h => trivial
  | true, .take k q, a, w, h => by
    obtain ⟨o, v, ho, hy, h'⟩ := h
    exact ⟨o, v, ho, hy, plan_join h2 true q _ w h'⟩
  | false, .take k q, a, w, h => by
    obtain ⟨o, v, ho, hy, h'⟩ := h
    exact ⟨o, v, ho, hy, plan_join h2 true q _ w h'⟩
  | true, .ask k s q alt, a, w, h => ⟨wpOp_mono (fun a' w' h' => ⟨h'.1, plan_join h2 true q a' w' h'.2⟩) (meet_op h.1), plan_join h2 false alt a w h.2⟩
  | false, .ask k s q alt, a, w, h => ⟨wpOp_mono (fun a' w' h' => ⟨h'.1, plan_join h2 true q a' w' h'.2⟩) (meet_op h.1), plan_join h2 false alt a w h.2⟩
theorem plan_pick {listed : Array Bool} {a : Act} {w : World} {i : Nat} : ∀ (p : Plan), i ∈ p.heads → p.chk md ops hs false listed = true → wpPlan P ops Q S hs false p a w →
    ∃ s q, (s = true ∨ opnB md ops hs (listed.setIfInBounds i true) = false) ∧ q.chk md ops hs true (listed.setIfInBounds i true) = true ∧ q.deep + 1 ≤ p.deep ∧
      wpOp P ops Q i (fun a' w' => (s = true → S w') ∧ wpPlan P ops Q S hs true q a' w') a w
  | .stop, h, _, _ => by simp [Plan.heads] at h
  | .take _ _, h, _, _ => by simp [Plan.heads] at h
  | .ask k s p alt, h, hc, hw => by
    simp only [Plan.chk, Bool.not_false, Bool.true_or, Bool.true_and, Bool.and_eq_true, Bool.or_eq_true, Bool.not_eq_true'] at hc
    obtain ⟨⟨h1, h3⟩, h4⟩ := hc
    rcases List.mem_cons.1 h with rfl | h
    · exact ⟨s, p, h1, h3, Nat.le_max_left _ _, hw.1⟩
    · obtain ⟨s', q, g1, g2, g3, g4⟩ := plan_pick alt h h4 hw.2
      exact ⟨s', q, g1, g2, Nat.le_trans g3 (Nat.le_max_right _ _), g4⟩
theorem plan_any (hsn : Region.noSelect ops = true) (hQ : ∀ c d v a w, Q (.panic c) (Act.put a d v) w → Q (.panic c) a w) : ∀ (fuel : Nat) (p : Plan) (listed : Array Bool) (a : Act) (w : World), p.deep ≤ fuel → Shut md ops listed → p.chk md ops hs true listed = true → (Opn md ops hs listed → S w) → wpPlan P ops Q S hs true p a w → wpAnyL P md ops Q S hs fuel listed a w
  | fuel, .stop, listed, a, w, _, _, hr, _, h => wpAnyL_done (by simpa [Plan.chk] using hr) h fuel
  | 0, .take k p, _, _, _, hd, _, _, _, _ => by simp only [Plan.deep] at hd; omega
  | 0, .ask k s p alt, _, _, _, hd, _, _, _, _ => by simp only [Plan.deep] at hd; omega
  | fuel + 1, .take k p, listed, a, w, hd, hsh, hc, hS, hw => by
    simp only [Plan.chk, Bool.true_and, Bool.and_eq_true, Bool.or_eq_true, Bool.not_eq_true', List.isEmpty_iff] at hc
    obtain ⟨⟨⟨hr, hf⟩, hnl⟩, hB'⟩ := hc
    have hr' : k ∈ Region.ready md ops listed := by simpa using hr
    obtain ⟨o, v, ho, hy, h'⟩ := hw
    have := plan_any hsn hQ fuel p (listed.setIfInBounds k true) (a.put o.dst v) w (by simp only [Plan.deep] at hd; omega) (hsh.set hr') hB' (fun hop => hS hop.back) h'
    have hnl' : lateB md ops hs k = false ∨ hs = [] ∨ ¬ Opn md ops hs listed := by
      rcases hnl with (hnl | hnl) | hnl
      · exact .inl hnl
      · exact .inr (.inl hnl)
      · exact .inr (.inr (not_opn hnl))
    refine wpAnyL_first ho (Region.noSelect_spec hsn) (fun c a w h => hQ c _ _ a w h) ?_ _ listed a w hsh hnl' (Region.free_spec ho hf) hr' hy hS this
    by_cases hk : k ∈ hs
    · exact .inr ⟨hk, fun w hS _ => hS⟩
    · exact .inl fun w hk' => (hk hk').elim
  | fuel + 1, .ask k s p alt, listed, a, w, hd, hsh, hc, hS, hw => by
    have hc' := hc
    simp only [Plan.chk, Bool.not_true, Bool.false_or, Bool.and_eq_true, decide_eq_true_eq] at hc
    have hr := hc.1.1.1
    refine ⟨fun h0 => (by rw [hr] at h0; cases h0), fun i hi => ?_⟩
    have hi' := hi
    rw [hr] at hi
    obtain ⟨s', q, g1, g2, g3, g4⟩ := plan_pick (.ask k s p alt) hi (by
      simp only [Plan.chk, Bool.not_false, Bool.true_or, Bool.true_and, Bool.and_eq_true]
      exact ⟨⟨hc.1.1.2, hc.1.2⟩, hc.2⟩) hw
    refine wpOp_mono (fun a' w' h' => ?_) g4
    have hSw : Opn md ops hs (listed.setIfInBounds i true) → S w' := fun ho => by
      rcases g1 with g1 | g1
      · exact h'.1 g1
      · exact (not_opn g1 ho).elim
    exact ⟨hSw, plan_any hsn hQ fuel q _ a' w' (by omega) (hsh.set hi') g2 hSw h'.2⟩

/-- THE REGION BY A PLAN. Those of 'hs' read what S says of the world. -/
theorem wp_region_plan {id : Nat} {a : Act} {w : World} {l : List Oper} (S : World → Prop) (hs : List Nat) (p : Plan) (hm : P.follows .mixedOrders = true)
    (hB : (Region.noSelect l.toArray && decide (p.deep = l.length) && p.chk .any l.toArray hs true (Array.replicate l.toArray.size false)) = true)
    (hQ : ∀ c d v a w, Q (.panic c) (Act.put a d v) w → Q (.panic c) a w) (hS : S w.drew)
    (h : wpPlan P l.toArray Q S hs true p a w.drew) : (Code.region id l.toArray true).wp P Q a w := by
  simp only [Bool.and_eq_true, decide_eq_true_eq] at hB
  obtain ⟨⟨hsn, hn⟩, hsc⟩ := hB
  refine wp_region_any hm ?_
  have H := plan_any (md := .any) (Q := Q) hsn hQ p.deep p _ a w.drew (Nat.le_refl _) (Shut.start _) hsc (fun _ => hS) h
  rw [hn, show l.length = l.toArray.size by simp] at H
  exact wpAny_of_l _ _ _ _ H

/-! ### one step of the tree, walked as a list of one operation -/
theorem Seg.mk {K : Act → World → Prop} {a : Act} {w : World} (h : K a w) : Seg K Q .normal a w := h
theorem Seg.lets {K : Act → World → Prop} (h : LetsOut (Seg K Q)) : LetsOut Q := by
  obtain ⟨a, w, h⟩ := h
  exact ⟨a, w, h⟩
theorem wpOp_of_list {k : Nat} {o : Oper} {K : Act → World → Prop} {a : Act} {w : World} (ho : ops[k]? = some o) (h : wpList P ops (Seg K Q) [o] a w) : wpOp P ops Q k K a w := by
  unfold wpOp
  simp only [ho]
  simp only [wpList] at h
  split
  · rename_i hw
    rw [if_pos hw] at h
    rcases h with h | h
    · refine .inl ?_
      unfold Oper.wp at *
      generalize (execOp a.eval o).run P w = r at *
      cases r with
      | ok n w' =>
        cases n <;> simp only [Oper.upon] at h ⊢ <;>
          first
            | exact h
            | exact Calls.mono h (fun e w'' he => by cases e <;> first | exact he | exact Seg.lets he)
            | exact Rows.mono h (fun _ _ he => he)
      | halt x w' => cases x <;> simp only [Oper.upon] at h ⊢ <;> exact h
    · exact .inr ⟨h.1, Seg.lets h.2⟩
  · rename_i hw
    rw [if_neg hw] at h
    exact h
theorem wpOp_of_last {k : Nat} {o : Oper} {a : Act} {w : World} (ho : ops[k]? = some o) (h : wpList P ops Q [o] a w) : wpOp P ops Q k (fun a' w' => Q .normal a' w') a w := by
  unfold wpOp
  simp only [ho]
  exact h
end
/-! ### the steps, over a list that is written out -/
section
variable {P : Program} {l : List Oper} {Q : Exit → Act → World → Prop} {S : World → Prop} {hs : List Nat}
theorem take_held {b : Bool} {k : Nat} {p : Plan} {a : Act} {w : World} (o : Oper) (v : Value) (ho : l[k]? = some o) (hw : Region.wanted o (yielded l.toArray a.tmps) = true)
    (hk : k ∈ hs) (hv : ∀ w, S w → (execOp a.eval o).run P w = .ok (.value v) w) (h : ∀ K' : Act → Prop, (∀ a, wpPlan P l.toArray Q S hs true p a w → K' a) → K' (a.put o.dst v)) : wpPlan P l.toArray Q S hs b (.take k p) a w := by
  have : wpPlan P l.toArray Q S hs true (.take k p) a w := ⟨o, v, by simpa using ho, .inl ⟨hw, fun w hS => hv w (hS hk)⟩, h _ fun _ h => h⟩
  cases b <;> exact this
theorem take_any {b : Bool} {k : Nat} {p : Plan} {a : Act} {w : World} (o : Oper) (v : Value) (ho : l[k]? = some o) (hw : Region.wanted o (yielded l.toArray a.tmps) = true)
    (hv : ∀ w, (execOp a.eval o).run P w = .ok (.value v) w) (h : ∀ K' : Act → Prop, (∀ a, wpPlan P l.toArray Q S hs true p a w → K' a) → K' (a.put o.dst v)) : wpPlan P l.toArray Q S hs b (.take k p) a w := by
  have : wpPlan P l.toArray Q S hs true (.take k p) a w := ⟨o, v, by simpa using ho, .inl ⟨hw, fun w _ => hv w⟩, h _ fun _ h => h⟩
  cases b <;> exact this
/-- S is to be shown behind it. -/
theorem ask_step {b : Bool} {k : Nat} {p alt : Plan} {a : Act} {w : World} (o : Oper) (ho : l[k]? = some o) (ha : wpPlan P l.toArray Q S hs false alt a w)
    (h : wpList P l.toArray (Seg (fun a' w' => S w' ∧ wpPlan P l.toArray Q S hs true p a' w') Q) [o] a w) : wpPlan P l.toArray Q S hs b (.ask k true p alt) a w := by
  have : wpPlan P l.toArray Q S hs true (.ask k true p alt) a w := ⟨wpOp_mono (fun a' w' h => ⟨fun _ => h.1, h.2⟩) (wpOp_of_list (by simpa using ho) h), ha⟩
  cases b <;> exact this
/-- S is no longer needed. -/
theorem ask_late {b : Bool} {k : Nat} {p alt : Plan} {a : Act} {w : World} (o : Oper) (ho : l[k]? = some o) (ha : wpPlan P l.toArray Q S hs false alt a w)
    (h : wpList P l.toArray (Seg (fun a' w' => wpPlan P l.toArray Q S hs true p a' w') Q) [o] a w) : wpPlan P l.toArray Q S hs b (.ask k false p alt) a w := by
  have : wpPlan P l.toArray Q S hs true (.ask k false p alt) a w := ⟨wpOp_mono (fun a' w' h => ⟨fun e => (by cases e), h⟩) (wpOp_of_list (by simpa using ho) h), ha⟩
  cases b <;> exact this
/-- A tree whose ways meet: what is known there of the slots ss and of the world. -/
theorem plan_cut {t p : Plan} {a : Act} {w : World} (ss : List Nat) (rel : List Value → World → Prop) (h1 : wpPlan P l.toArray (Meet a ss rel Q) S hs true t a w)
    (h2 : ∀ vs w', rel vs w' → wpPlan P l.toArray Q S hs true p (puts a ss vs) w') : wpPlan P l.toArray Q S hs true (Plan.join true t p) a w :=
  plan_join h2 true t a w h1
/-- Behind the last operation of such a tree. -/
theorem plan_meet {a a0 : Act} {ss : List Nat} {rel : List Value → World → Prop} {w : World} (vs : List Value) (h : rel vs w) (e : a = puts a0 ss vs) : wpPlan P l.toArray (Meet a0 ss rel Q) S hs true .stop a w :=
  ⟨vs, h, e⟩
/-- The last: the walk goes on behind it. -/
theorem ask_last {b : Bool} {k : Nat} {alt : Plan} {a : Act} {w : World} (o : Oper) (ho : l[k]? = some o) (ha : wpPlan P l.toArray Q S hs false alt a w) (h : wpList P l.toArray Q [o] a w) : wpPlan P l.toArray Q S hs b (.ask k false .stop alt) a w := by
  have : wpPlan P l.toArray Q S hs true (.ask k false .stop alt) a w := ⟨wpOp_mono (fun a' w' h => ⟨fun e => (by cases e), h⟩) (wpOp_of_last (by simpa using ho) h), ha⟩
  cases b <;> exact this
end
end Go.Proofs.Ytefhhfpdponabaa
