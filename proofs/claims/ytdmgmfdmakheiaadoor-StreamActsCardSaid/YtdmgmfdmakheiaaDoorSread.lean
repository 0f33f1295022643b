/- Slices of numbers, of primitives and of groups as a walk reads them, whoever made them: all blocks lie below B. For every program. And groups as plain data: what is permitted, what follows its pattern, marks. Then: Encode of groups as plain data: what it counts, what it refuses, what it writes. Then: Reading a group as plain data: which codes its mark asks for, and what is read under them, one primitive behind the other. -/
import Derived.Test.YtdmgmfdmakheiaaDoorPrim
import Derived.Test.YtdmgmfdmakheiaaDoorBasg
import Derived.Test.YtdmgmfdmakheiaaDoorMem
import Derived.Test.YtdmgmfdmakheiaaDoorPopn
namespace Go.Proofs.YtdmgmfdmakheiaaDoor
open Go Go.RowKit
set_option linter.unusedVariables false
set_option linter.unusedSimpArgs false

/-- A slice of the numbers l. -/
def IntsAt (B : Nat) (w : World) (v : Value) (l : List Int) : Prop :=
  ∃ ao cap, v = .slice ao l.length cap ∧ l.length ≤ cap ∧ ∀ j, j < l.length → ∃ b off, ao = some ⟨b, off, none⟩ ∧ b < B ∧ w.cell? ⟨b, off + j, none⟩ = some (.int .i64 (l.getD j 0))
/-- A slice of the primitives L. -/
def PrimsAt (B : Nat) (w : World) (v : Value) (L : List (Int × ByteArray)) : Prop :=
  ∃ ao cap, v = .slice ao L.length cap ∧ L.length ≤ cap ∧ cap ≤ maxLen ∧ ∀ j, j < L.length → ∃ b off c r, L[j]? = some (c, r) ∧ ao = some ⟨b, off, none⟩ ∧ b < B ∧
    w.cell? ⟨b, off + j * 2, none⟩ = some (.int .i64 c) ∧ w.cell? ⟨b, off + j * 2 + 1, none⟩ = some (.string r) ∧ r.size ≤ maxLen - 2
/-- A slice of the groups G. -/
def GroupsAt (B : Nat) (w : World) (v : Value) (G : List (Int × List (Int × ByteArray))) : Prop :=
  ∃ ao cap, v = .slice ao G.length cap ∧ G.length ≤ cap ∧ cap ≤ maxLen ∧ ∀ j, j < G.length → ∃ b off k L vi, G[j]? = some (k, L) ∧ ao = some ⟨b, off, none⟩ ∧ b < B ∧
    w.cell? ⟨b, off + j * 2, none⟩ = some (.int .i64 k) ∧ w.cell? ⟨b, off + j * 2 + 1, none⟩ = some vi ∧ PrimsAt B w vi L
section
variable {B C : Nat} {w w' : World} {v : Value}
theorem cell_same {b o : Nat} (hb : w'.heap[b]? = w.heap[b]?) : w'.cell? ⟨b, o, none⟩ = w.cell? ⟨b, o, none⟩ := by simp only [World.cell?, hb]
theorem IntsAt.same {l : List Int} (h : IntsAt B w v l) (hb : ∀ j, j < B → w'.heap[j]? = w.heap[j]?) (hC : B ≤ C) : IntsAt C w' v l := by
  obtain ⟨ao, cap, h1, h2, h3⟩ := h
  refine ⟨ao, cap, h1, h2, fun j hj => ?_⟩
  obtain ⟨b, off, e, hB, hc⟩ := h3 j hj
  exact ⟨b, off, e, by omega, by rw [cell_same (hb b hB)]; exact hc⟩
theorem PrimsAt.same {L : List (Int × ByteArray)} (h : PrimsAt B w v L) (hb : ∀ j, j < B → w'.heap[j]? = w.heap[j]?) (hC : B ≤ C) : PrimsAt C w' v L := by
  obtain ⟨ao, cap, h1, h2, h3, h4⟩ := h
  refine ⟨ao, cap, h1, h2, h3, fun j hj => ?_⟩
  obtain ⟨b, off, c, r, e1, e2, hB, c1, c2, hr⟩ := h4 j hj
  exact ⟨b, off, c, r, e1, e2, by omega, by rw [cell_same (hb b hB)]; exact c1, by rw [cell_same (hb b hB)]; exact c2, hr⟩
theorem GroupsAt.same {G : List (Int × List (Int × ByteArray))} (h : GroupsAt B w v G) (hb : ∀ j, j < B → w'.heap[j]? = w.heap[j]?) (hC : B ≤ C) : GroupsAt C w' v G := by
  obtain ⟨ao, cap, h1, h2, h3, h4⟩ := h
  refine ⟨ao, cap, h1, h2, h3, fun j hj => ?_⟩
  obtain ⟨b, off, k, L, vi, e1, e2, hB, c1, c2, hp⟩ := h4 j hj
  exact ⟨b, off, k, L, vi, e1, e2, by omega, by rw [cell_same (hb b hB)]; exact c1, by rw [cell_same (hb b hB)]; exact c2, hp.same hb hC⟩
theorem IntsAt.below {l : List Int} (h : IntsAt B w v l) (hb : Below B w w') : IntsAt B w' v l := h.same hb.block (Nat.le_refl _)
theorem PrimsAt.below {L : List (Int × ByteArray)} (h : PrimsAt B w v L) (hb : Below B w w') : PrimsAt B w' v L := h.same hb.block (Nat.le_refl _)
theorem GroupsAt.below {G : List (Int × List (Int × ByteArray))} (h : GroupsAt B w v G) (hb : Below B w w') : GroupsAt B w' v G := h.same hb.block (Nat.le_refl _)
end

/-- The codes of the pattern of a kind. -/
def permL (k : Int) : List Int := if k = 1 ∨ k = 2 then [7] else if k = 3 then [3, 7] else if k = 4 then [8, 1] else []
theorem permL_len (k : Int) : (permL k).length ≤ 2 := by unfold permL; (repeat' split) <;> decide
theorem permL_none (k : Int) : permL k = [] ↔ k < 1 ∨ 4 < k := by
  unfold permL
  by_cases h1 : k = 1 ∨ k = 2
  · rw [if_pos h1]; simp; omega
  · rw [if_neg h1]
    by_cases h3 : k = 3
    · rw [if_pos h3]; simp; omega
    · rw [if_neg h3]
      by_cases h4 : k = 4
      · rw [if_pos h4]; simp; omega
      · rw [if_neg h4]; simp; omega
/-- The letter of a kind. -/
def kindC (k : Int) : UInt8 := if k = 1 then 65 else if k = 2 then 66 else if k = 3 then 67 else 71
/-- A mark's four characters. -/
def markL (k n : Int) : List UInt8 := 45 :: kindC k :: digsL n.toNat 2
def badMark (k n : Int) : Prop := k < 1 ∨ 4 < k ∨ n < 0 ∨ 4095 < n
instance (k n : Int) : Decidable (badMark k n) := by unfold badMark; infer_instance
def markS (k n : Int) : ByteArray := if badMark k n then ⟨#[]⟩ else strL (markL k n)
def markE (k n : Int) : Int := if badMark k n then 2 else 0
/-- Do the codes of a group follow its pattern to its end? -/
def follL (k : Int) (L : List (Int × ByteArray)) : Bool :=
  decide (permL k ≠ []) && decide (L.length % (permL k).length = 0) && (List.range L.length).all fun i => decide ((L.getD i (0, ⟨#[]⟩)).1 = (permL k).getD (i % (permL k).length) 0)

theorem foll_none {k : Int} {L : List (Int × ByteArray)} (h : (permL k).length = 0) : follL k L = false := by
  unfold follL
  rw [decide_eq_false (by intro e; exact e (List.length_eq_zero_iff.1 h))]
  rfl
theorem foll_rest {k : Int} {L : List (Int × ByteArray)} (h : ¬ L.length % (permL k).length = 0) : follL k L = false := by
  unfold follL
  rw [decide_eq_false h, Bool.and_false]
  rfl
theorem foll_bad {k : Int} {L : List (Int × ByteArray)} (j : Nat) (c : Int) (r : ByteArray) (hj : L[j]? = some (c, r)) (h : c ≠ (permL k).getD (j % (permL k).length) 0) : follL k L = false := by
  unfold follL
  have hlt : j < L.length := by
    rcases Nat.lt_or_ge j L.length with h' | h'
    · exact h'
    · rw [List.getElem?_eq_none h'] at hj; cases hj
  have : ((List.range L.length).all fun i => decide ((L.getD i (0, ⟨#[]⟩)).1 = (permL k).getD (i % (permL k).length) 0)) = false := by
    rw [List.all_eq_false]
    refine ⟨j, List.mem_range.2 hlt, ?_⟩
    rw [List.getD, hj]
    simpa using h
  rw [this, Bool.and_false]
theorem foll_good {k : Int} {L : List (Int × ByteArray)} (h0 : (permL k).length ≠ 0) (h1 : L.length % (permL k).length = 0) (h : ∀ j c r, j < L.length → L[j]? = some (c, r) → c = (permL k).getD (j % (permL k).length) 0) : follL k L = true := by
  unfold follL
  rw [decide_eq_true (by intro e; rw [e] at h0; exact h0 rfl), decide_eq_true h1]
  simp only [Bool.and_self, Bool.true_and]
  rw [List.all_eq_true]
  intro j hj
  have hlt := List.mem_range.1 hj
  have e : L[j]? = some (L[j].1, L[j].2) := by rw [List.getElem?_eq_getElem hlt]
  rw [List.getD, e]
  simpa using h j _ _ hlt e

end Go.Proofs.YtdmgmfdmakheiaaDoor

namespace Go.Proofs.YtdmgmfdmakheiaaDoor
open Go Go.RowKit
set_option linter.unusedVariables false
set_option linter.unusedSimpArgs false

theorem primS_le (c : Int) (raw : ByteArray) : (primS c raw).size ≤ 836 := by
  unfold primS
  by_cases h : (1 ≤ c ∧ c ≤ 8) ∧ raw.size = rawN c.toNat
  · rw [if_pos h]
    show (textL c.toNat raw.data.toList).length ≤ 836
    rw [textL_length c.toNat (by omega) (by omega) _ (by rw [Array.length_toList]; exact h.2)]
    rcases eight_codes (c := c.toNat) (by omega) (by omega) with e | e | e | e | e | e | e | e <;> rw [e] <;> decide
  · rw [if_neg h]; decide
abbrev Prim := Int × ByteArray
abbrev Grp := Int × List Prim
/-- How many primitives there are. -/
def cntG (G : List Grp) : Nat := (G.map fun g => g.2.length).sum
/-- The texts of primitives, one behind the other. -/
def itemsL (L : List Prim) : List UInt8 := (L.map fun x => (primS x.1 x.2).data.toList).flatten
/-- A group's text. -/
def grpL (g : Grp) : List UInt8 := markL g.1 ((g.2.length / (permL g.1).length : Nat) : Int) ++ itemsL g.2
def grpsL (G : List Grp) : List UInt8 := (G.map grpL).flatten
/-- The first primitive that is refused. -/
def itemsE : List Prim → Int
  | [] => 0
  | x :: t => if primE x.1 x.2 = 0 then itemsE t else primE x.1 x.2
def grpsE : List Grp → Int
  | [] => 0
  | g :: t => if itemsE g.2 = 0 then grpsE t else itemsE g.2
def allF (G : List Grp) : Bool := G.all fun g => follL g.1 g.2
/-- What Encode returns. -/
def encGS (G : List Grp) : ByteArray := if 1024 < cntG G then ⟨#[]⟩ else if allF G = false then ⟨#[]⟩ else if grpsE G ≠ 0 then ⟨#[]⟩ else strL (grpsL G)
def encGE (G : List Grp) : Int := if 1024 < cntG G then 3 else if allF G = false then 7 else grpsE G

theorem take_at {α : Type} {l : List α} {j : Nat} {x : α} (h : l[j]? = some x) : l.take (j + 1) = l.take j ++ [x] := by
  rw [List.take_add_one, h]; rfl
theorem at_lt {α : Type} {l : List α} {j : Nat} {x : α} (h : l[j]? = some x) : j < l.length := by
  rcases Nat.lt_or_ge j l.length with h' | h'
  · exact h'
  · rw [List.getElem?_eq_none h'] at h; cases h
theorem cnt_zero (G : List Grp) : cntG (G.take 0) = 0 := rfl
theorem cnt_step {G : List Grp} {j : Nat} {k : Int} {L : List Prim} (h : G[j]? = some (k, L)) : cntG (G.take (j + 1)) = cntG (G.take j) + L.length := by
  unfold cntG; rw [take_at h]; simp
theorem cnt_le (G : List Grp) (j : Nat) : cntG (G.take j) ≤ cntG G := by
  unfold cntG
  conv => rhs; rw [← List.take_append_drop j G]
  rw [List.map_append, List.sum_append]
  omega
theorem cnt_item {G : List Grp} {j : Nat} {k : Int} {L : List Prim} (h : G[j]? = some (k, L)) : cntG (G.take j) + L.length ≤ cntG G := by
  rw [← cnt_step h]; exact cnt_le G _
theorem items_step {L : List Prim} {i : Nat} {c : Int} {r : ByteArray} (h : L[i]? = some (c, r)) : itemsL (L.take (i + 1)) = itemsL (L.take i) ++ (primS c r).data.toList := by
  unfold itemsL; rw [take_at h]; simp
theorem grps_step {G : List Grp} {j : Nat} {k : Int} {L : List Prim} (h : G[j]? = some (k, L)) : grpsL (G.take (j + 1)) = grpsL (G.take j) ++ (markL k ((L.length / (permL k).length : Nat) : Int) ++ itemsL L) := by
  unfold grpsL; rw [take_at h]; simp [grpL]
theorem items_le (L : List Prim) : (itemsL L).length ≤ 836 * L.length := by
  induction L with
  | nil => simp [itemsL]
  | cons x t ih =>
    have h := primS_le x.1 x.2
    have e : (itemsL (x :: t)).length = (primS x.1 x.2).data.toList.length + (itemsL t).length := by simp [itemsL]
    rw [e, Array.length_toList, List.length_cons]
    have h' : (primS x.1 x.2).data.size ≤ 836 := h
    omega
theorem markL_length (k n : Int) : (markL k n).length = 4 := by simp [markL, digsL_length]
theorem grps_le (G : List Grp) : (grpsL G).length ≤ 4 * G.length + 836 * cntG G := by
  induction G with
  | nil => simp [grpsL]
  | cons g t ih =>
    have h := items_le g.2
    have e : (grpsL (g :: t)).length = 4 + (itemsL g.2).length + (grpsL t).length := by simp [grpsL, grpL, markL_length]; omega
    have e2 : cntG (g :: t) = g.2.length + cntG t := by simp [cntG]
    rw [e, e2, List.length_cons]
    omega
theorem enc_size {G : List Grp} {j : Nat} {k : Int} {L : List Prim} (h : G[j]? = some (k, L)) (i : Nat) : (grpsL (G.take j)).length + 4 + (itemsL (L.take i)).length ≤ 4 * G.length + 836 * cntG G := by
  have h1 := grps_le (G.take j)
  have h2 := items_le (L.take i)
  have h3 := cnt_item h
  have h4 := at_lt h
  rw [List.length_take] at h1 h2
  have : min j G.length ≤ j := Nat.min_le_left _ _
  have : min i L.length ≤ L.length := Nat.min_le_right _ _
  omega
theorem items_zero {L : List Prim} (h : ∀ (p : Nat) (c : Int) (r : ByteArray), L[p]? = some (c, r) → primE c r = 0) : itemsE L = 0 := by
  induction L with
  | nil => rfl
  | cons x t ih =>
    rw [itemsE, if_pos (h 0 x.1 x.2 rfl)]
    exact ih fun p c r hp => h (p + 1) c r (by simpa using hp)
theorem items_at : ∀ {L : List Prim} {i : Nat} {c : Int} {r : ByteArray}, L[i]? = some (c, r) → (∀ p, p < i → ∀ c r, L[p]? = some (c, r) → primE c r = 0) → primE c r ≠ 0 → itemsE L = primE c r
  | [], _, _, _, h, _, _ => by simp at h
  | x :: t, 0, c, r, h, _, hn => by
    simp at h
    subst h
    rw [itemsE, if_neg hn]
  | x :: t, i + 1, c, r, h, hp, hn => by
    rw [itemsE, if_pos (hp 0 (by omega) x.1 x.2 rfl)]
    exact items_at (i := i) (by simpa using h) (fun p hlt c r he => hp (p + 1) (by omega) c r (by simpa using he)) hn
theorem grpsE_zero {G : List Grp} (h : ∀ (p : Nat) (k : Int) (L : List Prim), G[p]? = some (k, L) → itemsE L = 0) : grpsE G = 0 := by
  induction G with
  | nil => rfl
  | cons x t ih =>
    rw [grpsE, if_pos (h 0 x.1 x.2 rfl)]
    exact ih fun p c r hp => h (p + 1) c r (by simpa using hp)
theorem grpsE_at : ∀ {G : List Grp} {i : Nat} {k : Int} {L : List Prim}, G[i]? = some (k, L) → (∀ p, p < i → ∀ k L, G[p]? = some (k, L) → itemsE L = 0) → itemsE L ≠ 0 → grpsE G = itemsE L
  | [], _, _, _, h, _, _ => by simp at h
  | x :: t, 0, c, r, h, _, hn => by
    simp at h
    subst h
    rw [grpsE, if_neg hn]
  | x :: t, i + 1, c, r, h, hp, hn => by
    rw [grpsE, if_pos (hp 0 (by omega) x.1 x.2 rfl)]
    exact grpsE_at (i := i) (by simpa using h) (fun p hlt c r he => hp (p + 1) (by omega) c r (by simpa using he)) hn
theorem allF_of {G : List Grp} (h : ∀ j k L, j < G.length → G[j]? = some (k, L) → follL k L = true) : allF G = true := by
  unfold allF
  rw [List.all_eq_true]
  intro g hg
  obtain ⟨j, hj, rfl⟩ := List.getElem_of_mem hg
  exact h j _ _ hj (by rw [List.getElem?_eq_getElem hj])
theorem allF_not {G : List Grp} {j : Nat} {k : Int} {L : List Prim} (h : G[j]? = some (k, L)) (hf : follL k L = false) : allF G = false := by
  unfold allF
  rw [List.all_eq_false]
  exact ⟨(k, L), List.mem_of_getElem? h, by simp [hf]⟩
theorem enc_over {G : List Grp} (h : 1024 < cntG G) : encGS G = ⟨#[]⟩ ∧ encGE G = 3 := by
  unfold encGS encGE; rw [if_pos h, if_pos h]; exact ⟨rfl, rfl⟩
theorem enc_stray {G : List Grp} (h : ¬ 1024 < cntG G) {j : Nat} {k : Int} {L : List Prim} (hj : G[j]? = some (k, L)) (hf : follL k L = false) : encGS G = ⟨#[]⟩ ∧ encGE G = 7 := by
  unfold encGS encGE; rw [if_neg h, if_neg h, if_pos (allF_not hj hf), if_pos (allF_not hj hf)]; exact ⟨rfl, rfl⟩
theorem enc_bad {G : List Grp} (h : ¬ 1024 < cntG G) (hf : allF G = true) {j : Nat} {k : Int} {L : List Prim} (hj : G[j]? = some (k, L)) (hp : ∀ p, p < j → ∀ k L, G[p]? = some (k, L) → itemsE L = 0) {i : Nat} {c : Int} {r : ByteArray} (hi : L[i]? = some (c, r)) (hq : ∀ p, p < i → ∀ c r, L[p]? = some (c, r) → primE c r = 0) (hn : primE c r ≠ 0) : encGS G = ⟨#[]⟩ ∧ encGE G = primE c r := by
  have e1 := items_at hi hq hn
  have e2 := grpsE_at hj hp (by rw [e1]; exact hn)
  rw [e1] at e2
  unfold encGS encGE; simp [h, hf, e2, hn]
theorem enc_good {G : List Grp} (h : ¬ 1024 < cntG G) (hf : allF G = true) (hp : ∀ (p : Nat) (k : Int) (L : List Prim), G[p]? = some (k, L) → itemsE L = 0) : encGS G = strL (grpsL G) ∧ encGE G = 0 := by
  have e2 := grpsE_zero hp
  unfold encGS encGE; simp [h, hf, e2]
/-- Where the codes follow: the kind's pattern, and a mark that can be written. -/
theorem foll_mark {k : Int} {L : List Prim} (h : follL k L = true) (hl : L.length ≤ 1024) : (permL k).length ≠ 0 ∧ markS k ((L.length / (permL k).length : Nat) : Int) = strL (markL k ((L.length / (permL k).length : Nat) : Int)) := by
  have h0 : (permL k).length ≠ 0 := fun e => by rw [foll_none e] at h; cases h
  refine ⟨h0, ?_⟩
  have hk : ¬ (k < 1 ∨ 4 < k) := fun e => h0 (by rw [(permL_none k).2 e]; rfl)
  have hd : L.length / (permL k).length ≤ L.length := Nat.div_le_self _ _
  generalize L.length / (permL k).length = q at hd ⊢
  unfold markS
  rw [if_neg (by unfold badMark; omega)]

end Go.Proofs.YtdmgmfdmakheiaaDoor

namespace Go.Proofs.YtdmgmfdmakheiaaDoor
open Go Go.RowKit
set_option linter.unusedVariables false
set_option linter.unusedSimpArgs false

/-- The kind that a letter names. -/
def kindB (b : UInt8) : Int := if b = 65 then 1 else if b = 66 then 2 else if b = 67 then 3 else if b = 71 then 4 else 0
/-- The codes of n items of a kind. -/
def codesN (k : Int) (n : Nat) : List Int := (List.replicate n (permL k)).flatten
def restQ (t : ByteArray) : ByteArray := t.extract (decQ t).n.toNat t.size
/-- The error of reading under codes, what is read, and what is left. -/
def gE : List Int → ByteArray → Int
  | [], _ => 0
  | c :: cs, t => if (decQ t).e ≠ 0 then (decQ t).e else if (decQ t).c ≠ c then 7 else gE cs (restQ t)
def gL : List Int → ByteArray → List Prim
  | [], _ => []
  | _ :: cs, t => ((decQ t).c, (decQ t).raw) :: gL cs (restQ t)
def gR : List Int → ByteArray → ByteArray
  | [], t => t
  | _ :: cs, t => gR cs (restQ t)
/-- How far a reading has come. -/
def Far (all : List Int) (t0 : ByteArray) (acc : List Prim) (cs : List Int) (t : ByteArray) : Prop :=
  gE all t0 = gE cs t ∧ (gE all t0 = 0 → gL all t0 = acc ++ gL cs t ∧ gR all t0 = gR cs t)
theorem far_start (all : List Int) (t0 : ByteArray) : Far all t0 [] all t0 := ⟨rfl, fun _ => ⟨rfl, rfl⟩⟩
theorem far_err {all : List Int} {t0 : ByteArray} {acc : List Prim} {c : Int} {cs : List Int} {t : ByteArray} (h : Far all t0 acc (c :: cs) t) (he : (decQ t).e ≠ 0) : gE all t0 = (decQ t).e := by
  rw [h.1, gE, if_pos he]
theorem far_code {all : List Int} {t0 : ByteArray} {acc : List Prim} {c : Int} {cs : List Int} {t : ByteArray} (h : Far all t0 acc (c :: cs) t) (he : (decQ t).e = 0) (hc : (decQ t).c ≠ c) : gE all t0 = 7 := by
  rw [h.1, gE, if_neg (fun h => h he), if_pos hc]
theorem far_next {all : List Int} {t0 : ByteArray} {acc : List Prim} {c : Int} {cs : List Int} {t : ByteArray} (h : Far all t0 acc (c :: cs) t) (he : (decQ t).e = 0) (hc : (decQ t).c = c) : Far all t0 (acc ++ [((decQ t).c, (decQ t).raw)]) cs (restQ t) := by
  obtain ⟨h1, h2⟩ := h
  refine ⟨by rw [h1, gE, if_neg (fun h => h he), if_neg (fun h => h hc)], fun h0 => ?_⟩
  obtain ⟨h3, h4⟩ := h2 h0
  rw [gL] at h3
  rw [gR] at h4
  exact ⟨by rw [h3]; simp, h4⟩
theorem far_end {all : List Int} {t0 : ByteArray} {acc : List Prim} {t : ByteArray} (h : Far all t0 acc [] t) : gE all t0 = 0 ∧ gL all t0 = acc ∧ gR all t0 = t := by
  obtain ⟨h1, h2⟩ := h
  have h0 : gE all t0 = 0 := by rw [h1]; rfl
  obtain ⟨h3, h4⟩ := h2 h0
  exact ⟨h0, by rw [h3]; simp [gL], by rw [h4]; rfl⟩
theorem codes_cons (k : Int) (n : Nat) : codesN k (n + 1) = permL k ++ codesN k n := by
  unfold codesN
  rw [List.replicate_succ, List.flatten_cons]
theorem drop_at {l : List Int} {q : Nat} (h : q < l.length) : l.drop q = l.getD q 0 :: l.drop (q + 1) := by
  rw [List.drop_eq_getElem_cons h]
  simp [List.getD, List.getElem?_eq_getElem h]
/-- The mark with which a text begins: may it be read, its kind, its number. -/
def markOk (t : ByteArray) : Bool := decide (4 ≤ t.size) && decide (t.data.toList.getD 0 0 = 45) && decide (kindB (t.data.toList.getD 1 0) ≠ 0) && decide (parE ((t.extract 2 4).data.toList) = 0)
def markK (t : ByteArray) : Int := kindB (t.data.toList.getD 1 0)
def markC (t : ByteArray) : Nat := (parN ((t.extract 2 4).data.toList)).toNat
/-- What Group answers. -/
def grpE (t : ByteArray) : Int := if markOk t = false then 4 else gE (codesN (markK t) (markC t)) (t.extract 4 t.size)
def grpItems (t : ByteArray) : List Prim := gL (codesN (markK t) (markC t)) (t.extract 4 t.size)
def grpR (t : ByteArray) : ByteArray := if grpE t ≠ 0 then ⟨#[]⟩ else gR (codesN (markK t) (markC t)) (t.extract 4 t.size)

end Go.Proofs.YtdmgmfdmakheiaaDoor
