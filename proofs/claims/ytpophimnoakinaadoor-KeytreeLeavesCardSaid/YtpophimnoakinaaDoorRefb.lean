/- A region that draws its order, whose first n operations yield the same value in whatever world, and whose others stand in one forced order behind them: it is enough to walk it in the order of the text. For every program. -/
import Derived.Test.YtpophimnoakinaaDoorBasg
import Derived.StillTailTactics
import Derived.WalkKit
namespace Go.Proofs.YtpophimnoakinaaDoor
open Go
set_option linter.unusedVariables false
set_option linter.unusedSimpArgs false

section
variable {P : Program} {ops : Array Oper} {md : Region.Mode} {Q : Exit → Act → World → Prop}

/-- The walk of operations that yield the same value in whatever world. -/
def wpSteady (P : Program) (ops : Array Oper) (K : Act → Prop) : List Oper → Act → Prop
  | [], a => K a
  | o :: rest, a => ∃ v, Yields P ops o v a ∧ wpSteady P ops K rest (a.put o.dst v)

theorem steady_nil {K : Act → Prop} {a : Act} (h : K a) : wpSteady P ops K [] a := h
theorem steady_step {K : Act → Prop} {a : Act} {o : Oper} {rest : List Oper} (v : Value) (hw : Region.wanted o (yielded ops a.tmps) = true)
    (hv : ∀ w, (execOp a.eval o).run P w = .ok (.value v) w) (h : ∀ K' : Act → Prop, (∀ a, wpSteady P ops K rest a → K' a) → K' (a.put o.dst v)) : wpSteady P ops K (o :: rest) a :=
  ⟨v, .inl ⟨hw, hv⟩, h _ fun _ h => h⟩

theorem steady_any (hs : Region.noSelect ops = true) (hQ : ∀ c d v a w, Q (.panic c) (Act.put a d v) w → Q (.panic c) a w) {w : World} {g : Nat} {K : Act → Prop} :
    ∀ (l : List Oper) (k : Nat) (listed : Array Bool) (a : Act), (∀ j, j < l.length → l[j]? = ops[k + j]?) →
      Region.lexHead md ops g l.length k listed = true → (∀ listed a, Region.seqB md ops g (k + l.length) listed = true → K a → wpAny P md ops Q g listed a w) →
      wpSteady P ops K l a → wpAny P md ops Q (l.length + g) listed a w
  | [], k, listed, a, _, hB, hK, h => by
    simp only [List.length_nil, Nat.zero_add]
    exact hK _ _ (by simpa [Region.lexHead] using hB) h
  | o :: l, k, listed, a, hl, hB, hK, h => by
    have h0 : ops[k]? = some o := by simpa using (hl 0 (by simp)).symm
    simp only [List.length_cons, Region.lexHead, Bool.and_eq_true] at hB
    obtain ⟨⟨hr, hf⟩, hB'⟩ := hB
    obtain ⟨v, hy, h'⟩ := h
    have := steady_any hs hQ (w := w) l (k + 1) (listed.setIfInBounds k true) (a.put o.dst v)
      (fun j hj => by have := hl (j + 1) (by simp; omega); simpa [Nat.add_assoc, Nat.add_comm 1 j] using this) hB'
      (fun listed a hs hk => hK listed a (by rw [List.length_cons, show k + (l.length + 1) = k + 1 + l.length by omega]; exact hs) hk) h'
    rw [List.length_cons, show l.length + 1 + g = (l.length + g) + 1 by omega]
    exact wpAny_take h0 hs hf hr (fun c a w h => hQ c _ _ a w h) hy this

/-- THE REGION IN THE ORDER OF THE TEXT. -/
theorem wp_region_steady {id : Nat} {a : Act} {w : World} {l : List Oper} (n : Nat) (hm : P.follows .mixedOrders = true)
    (hB : (Region.noSelect l.toArray && decide (n ≤ l.length) && Region.lexHead .any l.toArray (l.toArray.size - n) n 0 (Array.replicate l.toArray.size false)) = true)
    (hQ : ∀ c d v a w, Q (.panic c) (Act.put a d v) w → Q (.panic c) a w)
    (h : wpSteady P l.toArray (fun a' => wpList P l.toArray Q (l.drop n) a' w.drew) (l.take n) a) : (Code.region id l.toArray true).wp P Q a w := by
  simp only [Bool.and_eq_true, decide_eq_true_eq] at hB
  obtain ⟨⟨hs, hn⟩, hlex⟩ := hB
  have htl : (l.take n).length = n := by simp; omega
  have hdl : (l.drop n).length = l.toArray.size - n := by simp
  refine wp_region_any hm ?_
  have H := steady_any (md := .any) (Q := Q) hs hQ (w := w.drew) (g := l.toArray.size - n) (l.take n) 0 (Array.replicate l.toArray.size false) a
    (fun j hj => by
      have hj' : j < n := by rw [htl] at hj; exact hj
      simp [hj']) (by rw [htl]; exact hlex)
    (fun listed a' hseq hk => by
      have := wpAny_of_seq (md := .any) (Q' := Q) (l.drop n) n listed a' w.drew (fun j => by simp [List.getElem?_drop]) (by rw [hdl]; rw [htl, Nat.zero_add] at hseq; exact hseq) hk
      rwa [hdl] at this) h
  rw [htl, show n + (l.toArray.size - n) = l.toArray.size by simp; omega] at H
  exact H
end
end Go.Proofs.YtpophimnoakinaaDoor
/- A region that draws its order, walked in an order that is written out: first operations that yield the same value in whatever world, then the others, each of which stands alone when its turn comes. For every program. -/
namespace Go.Proofs.YtpophimnoakinaaDoor
open Go
set_option linter.unusedVariables false
set_option linter.unusedSimpArgs false

section
variable {P : Program} {ops : Array Oper} {md : Region.Mode} {Q : Exit → Act → World → Prop}

/-- Does each of these stand alone when its turn comes, and is nothing left behind them? -/
def schedT (md : Region.Mode) (ops : Array Oper) : List Nat → Array Bool → Bool
  | t :: ts, listed => decide (Region.ready md ops listed = [t]) && schedT md ops ts (listed.setIfInBounds t true)
  | [], listed => (Region.ready md ops listed).isEmpty
/-- May the region be walked so: 'ks' first (each ready and free of all that is not yet listed), then 'ts'? -/
def schedB (md : Region.Mode) (ops : Array Oper) (ts : List Nat) : List Nat → Array Bool → Bool
  | k :: ks, listed => (Region.ready md ops listed).contains k && Region.free md ops listed k && schedB md ops ts ks (listed.setIfInBounds k true)
  | [], listed => schedT md ops ts listed

def opsAt (ops : Array Oper) (ks : List Nat) : List Oper := ks.filterMap fun k => ops[k]?

theorem sched_tail : ∀ (ts : List Nat) (listed : Array Bool) (a : Act) (w : World), schedT md ops ts listed = true → wpList P ops Q (opsAt ops ts) a w → wpAny P md ops Q ts.length listed a w
  | [], listed, a, w, hB, h => ⟨by simpa [schedT] using hB, by simpa [opsAt, wpList] using h⟩
  | t :: ts, listed, a, w, hB, h => by
    simp only [schedT, Bool.and_eq_true, decide_eq_true_eq] at hB
    obtain ⟨hr, hB'⟩ := hB
    have hmem : t ∈ Region.ready md ops listed := by rw [hr]; simp
    obtain ⟨_, o, ho, _⟩ := mem_ready.1 hmem
    refine ⟨fun h1 => (by rw [hr] at h1; cases h1), fun i hi => ?_⟩
    rw [hr] at hi
    obtain rfl : i = t := by simpa using hi
    have hw : wpOp P ops Q i (wpList P ops Q (opsAt ops ts)) a w := by
      unfold wpOp
      simp only [ho]
      have : opsAt ops (i :: ts) = o :: opsAt ops ts := by simp [opsAt, ho]
      rw [this] at h
      exact h
    exact wpOp_mono (fun a' w' h' => sched_tail ts _ a' w' hB' h') hw

theorem sched_any (hs : Region.noSelect ops = true) (hQ : ∀ c d v a w, Q (.panic c) (Act.put a d v) w → Q (.panic c) a w) {w : World} :
    ∀ (ks ts : List Nat) (listed : Array Bool) (a : Act), schedB md ops ts ks listed = true →
      wpSteady P ops (fun a' => wpList P ops Q (opsAt ops ts) a' w) (opsAt ops ks) a → wpAny P md ops Q (ks.length + ts.length) listed a w
  | [], ts, listed, a, hB, h => by
    rw [List.length_nil, Nat.zero_add]
    exact sched_tail ts listed a w hB (by simpa [opsAt, wpSteady] using h)
  | k :: ks, ts, listed, a, hB, h => by
    simp only [schedB, Bool.and_eq_true] at hB
    obtain ⟨⟨hr, hf⟩, hB'⟩ := hB
    have hmem : k ∈ Region.ready md ops listed := by simpa using hr
    obtain ⟨_, o, ho, _⟩ := mem_ready.1 hmem
    have e : opsAt ops (k :: ks) = o :: opsAt ops ks := by simp [opsAt, ho]
    rw [e] at h
    obtain ⟨v, hy, h'⟩ := h
    have := sched_any hs hQ (w := w) ks ts (listed.setIfInBounds k true) (a.put o.dst v) hB' h'
    rw [List.length_cons, show ks.length + 1 + ts.length = (ks.length + ts.length) + 1 by omega]
    exact wpAny_take ho hs hf hr (fun c a w h => hQ c _ _ a w h) hy this

/-- THE REGION IN THE ORDER 'ks', THEN 'ts'. -/
theorem wp_region_sched {id : Nat} {a : Act} {w : World} {l : List Oper} (ks ts : List Nat) (hm : P.follows .mixedOrders = true)
    (hB : (Region.noSelect l.toArray && decide (ks.length + ts.length = l.length) && schedB .any l.toArray ts ks (Array.replicate l.toArray.size false)) = true)
    (hQ : ∀ c d v a w, Q (.panic c) (Act.put a d v) w → Q (.panic c) a w)
    (h : wpSteady P l.toArray (fun a' => wpList P l.toArray Q (opsAt l.toArray ts) a' w.drew) (opsAt l.toArray ks) a) : (Code.region id l.toArray true).wp P Q a w := by
  simp only [Bool.and_eq_true, decide_eq_true_eq] at hB
  obtain ⟨⟨hs, hn⟩, hsc⟩ := hB
  refine wp_region_any hm ?_
  have H := sched_any (md := .any) (Q := Q) hs hQ (w := w.drew) ks ts _ a hsc h
  rw [hn] at H
  have e : l.toArray.size = l.length := by simp
  rw [e]
  rw [e] at H
  exact H
end
end Go.Proofs.YtpophimnoakinaaDoor
/- Contracts of the document's own Value, Digit, Parse, Number and Decode: each returns just what the program's function returns. -/
namespace Go.Proofs.YtpophimnoakinaaDoor
open Go.ChangeShapes Go.WideShapes Go.ChangeAt Go.RowKit
set_option linter.unusedVariables false
set_option linter.unusedSimpArgs false

/-- None of the first k digits is the character c. -/
def NotYet (k c : Nat) : Prop := ∀ i, i < k → (dig i).toNat ≠ c

set_option maxRecDepth 100000 in
theorem rvalue_any (c : Nat) (w : World) (hc : c < 256) :
    Calls Tryd.prog 96 #[.int .u8 c] w fun e w' => e = .returned (.tuple #[.int .i64 (vnum c), .bool (vis c)]) ∧ w = w' := by
  go_enter Tryd.func96, Tryd.ntmps96
  go_wp2
  go_loop [5] (fun i => ∃ k : Nat, k ≤ 64 ∧ i = .int .i64 k ∧ NotYet k c) (fun i => 64 - (intOf i).toNat)
  case atStart => exact ⟨0, Nat.zero_le _, rfl, fun i hi => absurd hi (Nat.not_lt_zero _)⟩
  case round =>
    obtain ⟨k, hk, rfl, hny⟩ := hrel
    have HNY := Lib.hid hny
    clear hny
    by_cases hlt : k < 64
    · have ha := alph_get k
      by_cases hd : (dig k).toNat = c
      · have hv : val1 c = k + 1 := by rw [← hd]; exact val1_dig k hlt
        have e1 : vnum c = (k : Int) := by unfold vnum; rw [hv]; rfl
        have e2 : vis c = true := by unfold vis; rw [hv]; simp
        have E1 := Lib.hid e1
        have E2 := Lib.hid e2
        have hdd : (((dig k).toNat : Int) == (c : Int)) = true := by simp; omega
        clear hv e1 e2 hd
        go_wp2
        go_ret2
        rw [E1.out, E2.out]
        exact ⟨rfl, rfl⟩
      · have hdd : (((dig k).toNat : Int) == (c : Int)) = false := by simp; omega
        have HD := Lib.hid hd
        clear hd
        go_wp2
        go_round
        case rel =>
          refine ⟨k + 1, by omega, by go_num, fun i hi => ?_⟩
          by_cases hik : i = k
          · rw [hik]; exact HD.out
          · exact HNY.out i (by omega)
        case measure => simp [intOf]; omega
    · have hv : val1 c = 0 := by
        by_cases h : val1 c = 0
        · exact h
        · have h1 := val1_le c
          exact absurd (dig_val1 c h) (HNY.out (val1 c - 1) (by omega))
      have e1 : vnum c = 0 := by unfold vnum; rw [hv]; rfl
      have e2 : vis c = false := by unfold vis; rw [hv]; rfl
      have E1 := Lib.hid e1
      have E2 := Lib.hid e2
      clear hv e1 e2
      go_wp2
      go_ret2
      rw [E1.out, E2.out]
      exact ⟨rfl, rfl⟩

theorem rvalue_dig (c : Nat) (v : Nat) (w : World) (hc : c < 256) (hv : val1 c = v + 1) :
    Calls Tryd.prog 96 #[.int .u8 c] w fun e w' => e = .returned (.tuple #[.int .i64 v, .bool true]) ∧ w = w' :=
  (rvalue_any c w hc).mono fun e w' ⟨he, hw⟩ => ⟨by rw [he]; unfold vnum vis; rw [hv]; simp, hw⟩
theorem rvalue_not (c : Nat) (w : World) (hc : c < 256) (hv : val1 c = 0) :
    Calls Tryd.prog 96 #[.int .u8 c] w fun e w' => e = .returned (.tuple #[.int .i64 0, .bool false]) ∧ w = w' :=
  (rvalue_any c w hc).mono fun e w' ⟨he, hw⟩ => ⟨by rw [he]; unfold vnum vis; rw [hv]; simp, hw⟩




end Go.Proofs.YtpophimnoakinaaDoor
