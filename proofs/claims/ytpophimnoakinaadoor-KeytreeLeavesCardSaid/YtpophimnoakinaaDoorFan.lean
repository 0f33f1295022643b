/- A region that draws its order: first operations that yield the same value in whatever world; behind them a few written orders of the others, which are all that the draw allows. For every program. -/
import Derived.Test.YtpophimnoakinaaDoorRefb
import Derived.Deep.MidRow
namespace Go.Proofs.YtpophimnoakinaaDoor
open Go
set_option linter.unusedVariables false
set_option linter.unusedSimpArgs false

section
variable {P : Program} {ops : Array Oper} {md : Region.Mode} {Q : Exit → Act → World → Prop}

def fanT (md : Region.Mode) (ops : Array Oper) (n : Nat) (tss : List (List Nat)) (listed : Array Bool) : Bool :=
  decide (Region.ready md ops listed = tss.map (·.headD 0)) && !tss.isEmpty && tss.all fun
    | t :: r => decide (r.length = n) && schedT md ops r (listed.setIfInBounds t true)
    | [] => false
def fanB (md : Region.Mode) (ops : Array Oper) (n : Nat) (tss : List (List Nat)) : List Nat → Array Bool → Bool
  | k :: ks, listed => (Region.ready md ops listed).contains k && Region.free md ops listed k && fanB md ops n tss ks (listed.setIfInBounds k true)
  | [], listed => fanT md ops n tss listed

theorem fan_tail (n : Nat) (tss : List (List Nat)) (listed : Array Bool) (a : Act) (w : World) (hB : fanT md ops n tss listed = true) (h : ∀ ts ∈ tss, wpList P ops Q (opsAt ops ts) a w) : wpAny P md ops Q (n + 1) listed a w := by
  simp only [fanT, Bool.and_eq_true, decide_eq_true_eq, List.all_eq_true] at hB
  obtain ⟨⟨hr, hne⟩, hall⟩ := hB
  have hne' : tss ≠ [] := by intro e; subst e; simp at hne
  refine wpAny_all hr (by simpa using hne') fun i hi => ?_
  obtain ⟨ts, hts, he⟩ := List.mem_map.1 hi
  have hc := hall ts hts
  have hw := h ts hts
  match ts, hc, he, hw with
  | t :: r, hc, he, hw =>
    obtain rfl : t = i := by simpa using he
    simp only [Bool.and_eq_true, decide_eq_true_eq] at hc
    obtain ⟨hl, hs⟩ := hc
    have hmem : t ∈ Region.ready md ops listed := by rw [hr]; exact hi
    obtain ⟨_, o, ho, _⟩ := mem_ready.1 hmem
    have hop : wpOp P ops Q t (wpList P ops Q (opsAt ops r)) a w := by
      unfold wpOp
      simp only [ho]
      have : opsAt ops (t :: r) = o :: opsAt ops r := by simp [opsAt, ho]
      rw [this] at hw
      exact hw
    have := wpOp_mono (fun a' w' h' => sched_tail r (listed.setIfInBounds t true) a' w' hs h') hop
    rwa [hl] at this

theorem fan_any (hs : Region.noSelect ops = true) (hQ : ∀ c d v a w, Q (.panic c) (Act.put a d v) w → Q (.panic c) a w) {w : World} (n : Nat) (tss : List (List Nat)) :
    ∀ (ks : List Nat) (listed : Array Bool) (a : Act), fanB md ops n tss ks listed = true →
      wpSteady P ops (fun a' => ∀ ts ∈ tss, wpList P ops Q (opsAt ops ts) a' w) (opsAt ops ks) a → wpAny P md ops Q (ks.length + (n + 1)) listed a w
  | [], listed, a, hB, h => by
    rw [List.length_nil, Nat.zero_add]
    exact fan_tail n tss listed a w hB (by simpa [opsAt, wpSteady] using h)
  | k :: ks, listed, a, hB, h => by
    simp only [fanB, Bool.and_eq_true] at hB
    obtain ⟨⟨hr, hf⟩, hB'⟩ := hB
    have hmem : k ∈ Region.ready md ops listed := by simpa using hr
    obtain ⟨_, o, ho, _⟩ := mem_ready.1 hmem
    have e : opsAt ops (k :: ks) = o :: opsAt ops ks := by simp [opsAt, ho]
    rw [e] at h
    obtain ⟨v, hy, h'⟩ := h
    have := fan_any hs hQ n tss ks (listed.setIfInBounds k true) (a.put o.dst v) hB' h'
    rw [List.length_cons, show ks.length + 1 + (n + 1) = (ks.length + (n + 1)) + 1 by omega]
    exact wpAny_take ho hs hf hr (fun c a w h => hQ c _ _ a w h) hy this

/-- THE REGION: 'ks' first, then each of the orders 'tss'. -/
theorem wp_region_fan {id : Nat} {a : Act} {w : World} {l : List Oper} (ks : List Nat) (n : Nat) (tss : List (List Nat)) (hm : P.follows .mixedOrders = true)
    (hB : (Region.noSelect l.toArray && decide (ks.length + (n + 1) = l.length) && fanB .any l.toArray n tss ks (Array.replicate l.toArray.size false)) = true)
    (hQ : ∀ c d v a w, Q (.panic c) (Act.put a d v) w → Q (.panic c) a w)
    (h : wpSteady P l.toArray (fun a' => ∀ ts ∈ tss, wpList P l.toArray Q (opsAt l.toArray ts) a' w.drew) (opsAt l.toArray ks) a) : (Code.region id l.toArray true).wp P Q a w := by
  simp only [Bool.and_eq_true, decide_eq_true_eq] at hB
  obtain ⟨⟨hs, hn⟩, hsc⟩ := hB
  refine wp_region_any hm ?_
  have H := fan_any (md := .any) (Q := Q) hs hQ (w := w.drew) n tss ks _ a hsc h
  rw [hn] at H
  have e : l.toArray.size = l.length := by simp
  rw [e]
  rw [e] at H
  exact H

/-- One operation, then each of some written orders. -/
def wpFan (P : Program) (ops : Array Oper) (Q : Exit → Act → World → Prop) (p : Nat × List (List Nat)) (a : Act) (w : World) : Prop :=
  wpOp P ops Q p.1 (fun a' w' => ∀ ts ∈ p.2, wpList P ops Q (opsAt ops ts) a' w') a w
def fan2T (md : Region.Mode) (ops : Array Oper) (n : Nat) (tr : List (Nat × List (List Nat))) (listed : Array Bool) : Bool :=
  decide (Region.ready md ops listed = tr.map (·.1)) && !tr.isEmpty && tr.all fun p => fanT md ops n p.2 (listed.setIfInBounds p.1 true)
def fan2B (md : Region.Mode) (ops : Array Oper) (n : Nat) (tr : List (Nat × List (List Nat))) : List Nat → Array Bool → Bool
  | k :: ks, listed => (Region.ready md ops listed).contains k && Region.free md ops listed k && fan2B md ops n tr ks (listed.setIfInBounds k true)
  | [], listed => fan2T md ops n tr listed
theorem fan2_tail (n : Nat) (tr : List (Nat × List (List Nat))) (listed : Array Bool) (a : Act) (w : World) (hB : fan2T md ops n tr listed = true) (h : ∀ p ∈ tr, wpFan P ops Q p a w) : wpAny P md ops Q (n + 1 + 1) listed a w := by
  simp only [fan2T, Bool.and_eq_true, decide_eq_true_eq, List.all_eq_true] at hB
  obtain ⟨⟨hr, hne⟩, hall⟩ := hB
  have hne' : tr ≠ [] := by intro e; subst e; simp at hne
  refine wpAny_all hr (by simpa using hne') fun i hi => ?_
  obtain ⟨p, hp, he⟩ := List.mem_map.1 hi
  subst he
  exact wpOp_mono (fun a' w' h' => fan_tail n p.2 _ a' w' (hall p hp) h') (h p hp)
theorem fan2_any (hs : Region.noSelect ops = true) (hQ : ∀ c d v a w, Q (.panic c) (Act.put a d v) w → Q (.panic c) a w) {w : World} (n : Nat) (tr : List (Nat × List (List Nat))) :
    ∀ (ks : List Nat) (listed : Array Bool) (a : Act), fan2B md ops n tr ks listed = true →
      wpSteady P ops (fun a' => ∀ p ∈ tr, wpFan P ops Q p a' w) (opsAt ops ks) a → wpAny P md ops Q (ks.length + (n + 1 + 1)) listed a w
  | [], listed, a, hB, h => by
    rw [List.length_nil, Nat.zero_add]
    exact fan2_tail n tr listed a w hB (by simpa [opsAt, wpSteady] using h)
  | k :: ks, listed, a, hB, h => by
    simp only [fan2B, Bool.and_eq_true] at hB
    obtain ⟨⟨hr, hf⟩, hB'⟩ := hB
    have hmem : k ∈ Region.ready md ops listed := by simpa using hr
    obtain ⟨_, o, ho, _⟩ := mem_ready.1 hmem
    have e : opsAt ops (k :: ks) = o :: opsAt ops ks := by simp [opsAt, ho]
    rw [e] at h
    obtain ⟨v, hy, h'⟩ := h
    have := fan2_any hs hQ n tr ks (listed.setIfInBounds k true) (a.put o.dst v) hB' h'
    rw [List.length_cons, show ks.length + 1 + (n + 1 + 1) = (ks.length + (n + 1 + 1)) + 1 by omega]
    exact wpAny_take ho hs hf hr (fun c a w h => hQ c _ _ a w h) hy this
/-- THE REGION: 'ks' first, then one of the operations of 'tr', then each of the orders that stand behind it. -/
theorem wp_region_fan2 {id : Nat} {a : Act} {w : World} {l : List Oper} (ks : List Nat) (n : Nat) (tr : List (Nat × List (List Nat))) (hm : P.follows .mixedOrders = true)
    (hB : (Region.noSelect l.toArray && decide (ks.length + (n + 1 + 1) = l.length) && fan2B .any l.toArray n tr ks (Array.replicate l.toArray.size false)) = true)
    (hQ : ∀ c d v a w, Q (.panic c) (Act.put a d v) w → Q (.panic c) a w)
    (h : wpSteady P l.toArray (fun a' => ∀ p ∈ tr, wpFan P l.toArray Q p a' w.drew) (opsAt l.toArray ks) a) : (Code.region id l.toArray true).wp P Q a w := by
  simp only [Bool.and_eq_true, decide_eq_true_eq] at hB
  obtain ⟨⟨hs, hn⟩, hsc⟩ := hB
  refine wp_region_any hm ?_
  have H := fan2_any (md := .any) (Q := Q) hs hQ (w := w.drew) n tr ks _ a hsc h
  rw [hn] at H
  have e : l.toArray.size = l.length := by simp
  rw [e]
  rw [e] at H
  exact H

/-- The first of them a load of a whole array whose cells are known. -/
theorem fan_ld {p : Nat × List (List Nat)} {a : Act} {w : World} {o : Oper} (hi : ops[p.1]? = some o) (hgd : o.guard = none) (dst : Option Tmp) (hdst : o.dst = dst) (ty : TypeId) (x : Operand) (ho : o.op = .load ty x)
    (b off : Nat) (hx : a.eval x = .pointer (some ⟨b, off, none⟩)) (cs : List Value) (d : TypeDesc) (hc : w.rangeAt b off cs)
    (hu : P.underlying ty = some d) (hd : d.isRow = true) (hsz : (P.info? ty).map (·.size) = some cs.length)
    (h : ∀ ts ∈ p.2, wpList P ops Q (opsAt ops ts) (a.put dst (.agg cs.toArray)) w) : wpFan P ops Q p a w := by
  subst hdst
  unfold wpFan wpOp
  have hw : Region.wanted o (yielded ops a.tmps) = true := by simp [Region.wanted, hgd]
  simp only [hi, hw, if_true]
  exact .inl (wp_load_mid ty x ho b off hx cs d hc hu hd hsz h)
/-- The first of them a new variable. -/
theorem fan_al {p : Nat × List (List Nat)} {a : Act} {w : World} {o : Oper} (hi : ops[p.1]? = some o) (hgd : o.guard = none) (dst : Option Tmp) (hdst : o.dst = dst) (ty : TypeId) (ho : o.op = .alloc ty)
    (z : Value) (hz : ∀ w, (zeroValue ty).run P w = .ok z w)
    (h : ∀ ts ∈ p.2, wpList P ops Q (opsAt ops ts) (a.put dst (.pointer (some ⟨w.heap.size, 0, none⟩))) (w.alloc (.cells z.cells ty))) : wpFan P ops Q p a w := by
  subst hdst
  unfold wpFan wpOp
  have hw : Region.wanted o (yielded ops a.tmps) = true := by simp [Region.wanted, hgd]
  simp only [hi, hw, if_true]
  refine .inl ?_
  unfold Oper.wp
  simp [execOp, ho, hz, go_sem]
  exact h
end
end Go.Proofs.YtpophimnoakinaaDoor
