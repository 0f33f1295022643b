/- A region that draws its order, walked in an order that is written out: first operations that yield the same value in whatever world, then the others, each of which stands alone when its turn comes. For every program. -/
import Derived.Test.YtgoecmpbobablaaDoorOrder
namespace Go.Proofs.YtgoecmpbobablaaDoor
open Go
set_option linter.unusedVariables false
set_option linter.unusedSimpArgs false

section
variable {P : Program} {ops : Array Oper} {md : Region.Mode} {Q : Exit → Act → World → Prop}

/-- Does each of these stand alone when its turn comes, and is nothing left behind them? -/
def schedT (md : Region.Mode) (ops : Array Oper) : List Nat → Array Bool → Bool
  | t :: ts, listed => decide (Region.ready md ops listed = [t]) && schedT md ops ts (listed.setIfInBounds t true)
  | [], listed => (Region.ready md ops listed).isEmpty
/-- May the region be walked so: 'ks' first (each ready and free of all that is not yet listed), then 'ts'? -/
def schedB (md : Region.Mode) (ops : Array Oper) (ts : List Nat) : List Nat → Array Bool → Bool
  | k :: ks, listed => (Region.ready md ops listed).contains k && Region.free md ops listed k && schedB md ops ts ks (listed.setIfInBounds k true)
  | [], listed => schedT md ops ts listed

def opsAt (ops : Array Oper) (ks : List Nat) : List Oper := ks.filterMap fun k => ops[k]?

theorem sched_tail : ∀ (ts : List Nat) (listed : Array Bool) (a : Act) (w : World), schedT md ops ts listed = true → wpList P ops Q (opsAt ops ts) a w → wpAny P md ops Q ts.length listed a w
  | [], listed, a, w, hB, h => ⟨by simpa [schedT] using hB, by simpa [opsAt, wpList] using h⟩
  | t :: ts, listed, a, w, hB, h => by
    simp only [schedT, Bool.and_eq_true, decide_eq_true_eq] at hB
    obtain ⟨hr, hB'⟩ := hB
    have hmem : t ∈ Region.ready md ops listed := by rw [hr]; simp
    obtain ⟨_, o, ho, _⟩ := mem_ready.1 hmem
    refine ⟨fun h1 => (by rw [hr] at h1; cases h1), fun i hi => ?_⟩
    rw [hr] at hi
    obtain rfl : i = t := by simpa using hi
    have hw : wpOp P ops Q i (wpList P ops Q (opsAt ops ts)) a w := by
      unfold wpOp
      simp only [ho]
      have : opsAt ops (i :: ts) = o :: opsAt ops ts := by simp [opsAt, ho]
      rw [this] at h
      exact h
    exact wpOp_mono (fun a' w' h' => sched_tail ts _ a' w' hB' h') hw

theorem sched_any (hs : Region.noSelect ops = true) (hQ : ∀ c d v a w, Q (.panic c) (Act.put a d v) w → Q (.panic c) a w) {w : World} :
    ∀ (ks ts : List Nat) (listed : Array Bool) (a : Act), schedB md ops ts ks listed = true →
      wpSteady P ops (fun a' => wpList P ops Q (opsAt ops ts) a' w) (opsAt ops ks) a → wpAny P md ops Q (ks.length + ts.length) listed a w
  | [], ts, listed, a, hB, h => by
    rw [List.length_nil, Nat.zero_add]
    exact sched_tail ts listed a w hB (by simpa [opsAt, wpSteady] using h)
  | k :: ks, ts, listed, a, hB, h => by
    simp only [schedB, Bool.and_eq_true] at hB
    obtain ⟨⟨hr, hf⟩, hB'⟩ := hB
    have hmem : k ∈ Region.ready md ops listed := by simpa using hr
    obtain ⟨_, o, ho, _⟩ := mem_ready.1 hmem
    have e : opsAt ops (k :: ks) = o :: opsAt ops ks := by simp [opsAt, ho]
    rw [e] at h
    obtain ⟨v, hy, h'⟩ := h
    have := sched_any hs hQ (w := w) ks ts (listed.setIfInBounds k true) (a.put o.dst v) hB' h'
    rw [List.length_cons, show ks.length + 1 + ts.length = (ks.length + ts.length) + 1 by omega]
    exact wpAny_take ho hs hf hr (fun c a w h => hQ c _ _ a w h) hy this

/-- THE REGION IN THE ORDER 'ks', THEN 'ts'. -/
theorem wp_region_sched {id : Nat} {a : Act} {w : World} {l : List Oper} (ks ts : List Nat) (hm : P.follows .mixedOrders = true)
    (hB : (Region.noSelect l.toArray && decide (ks.length + ts.length = l.length) && schedB .any l.toArray ts ks (Array.replicate l.toArray.size false)) = true)
    (hQ : ∀ c d v a w, Q (.panic c) (Act.put a d v) w → Q (.panic c) a w)
    (h : wpSteady P l.toArray (fun a' => wpList P l.toArray Q (opsAt l.toArray ts) a' w.drew) (opsAt l.toArray ks) a) : (Code.region id l.toArray true).wp P Q a w := by
  simp only [Bool.and_eq_true, decide_eq_true_eq] at hB
  obtain ⟨⟨hs, hn⟩, hsc⟩ := hB
  refine wp_region_any hm ?_
  have H := sched_any (md := .any) (Q := Q) hs hQ (w := w.drew) ks ts _ a hsc h
  rw [hn] at H
  have e : l.toArray.size = l.length := by simp
  rw [e]
  rw [e] at H
  exact H
end
end Go.Proofs.YtgoecmpbobablaaDoor
