/- Encode of groups as plain data: what it counts, what it refuses, what it writes. -/
import Derived.Test.YtdmgmfdmakheiaaDoorSshape
import Derived.Test.YtdmgmfdmakheiaaDoorPopn
namespace Go.Proofs.YtdmgmfdmakheiaaDoor
open Go Go.RowKit
set_option linter.unusedVariables false
set_option linter.unusedSimpArgs false

theorem primS_le (c : Int) (raw : ByteArray) : (primS c raw).size ≤ 836 := by
  unfold primS
  by_cases h : (1 ≤ c ∧ c ≤ 8) ∧ raw.size = rawN c.toNat
  · rw [if_pos h]
    show (textL c.toNat raw.data.toList).length ≤ 836
    rw [textL_length c.toNat (by omega) (by omega) _ (by rw [Array.length_toList]; exact h.2)]
    rcases eight_codes (c := c.toNat) (by omega) (by omega) with e | e | e | e | e | e | e | e <;> rw [e] <;> decide
  · rw [if_neg h]; decide
abbrev Prim := Int × ByteArray
abbrev Grp := Int × List Prim
/-- How many primitives there are. -/
def cntG (G : List Grp) : Nat := (G.map fun g => g.2.length).sum
/-- The texts of primitives, one behind the other. -/
def itemsL (L : List Prim) : List UInt8 := (L.map fun x => (primS x.1 x.2).data.toList).flatten
/-- A group's text. -/
def grpL (g : Grp) : List UInt8 := markL g.1 ((g.2.length / (permL g.1).length : Nat) : Int) ++ itemsL g.2
def grpsL (G : List Grp) : List UInt8 := (G.map grpL).flatten
/-- The first primitive that is refused. -/
def itemsE : List Prim → Int
  | [] => 0
  | x :: t => if primE x.1 x.2 = 0 then itemsE t else primE x.1 x.2
def grpsE : List Grp → Int
  | [] => 0
  | g :: t => if itemsE g.2 = 0 then grpsE t else itemsE g.2
def allF (G : List Grp) : Bool := G.all fun g => follL g.1 g.2
/-- What Encode returns. -/
def encGS (G : List Grp) : ByteArray := if 1024 < cntG G then ⟨#[]⟩ else if allF G = false then ⟨#[]⟩ else if grpsE G ≠ 0 then ⟨#[]⟩ else strL (grpsL G)
def encGE (G : List Grp) : Int := if 1024 < cntG G then 3 else if allF G = false then 7 else grpsE G

theorem take_at {α : Type} {l : List α} {j : Nat} {x : α} (h : l[j]? = some x) : l.take (j + 1) = l.take j ++ [x] := by
  rw [List.take_add_one, h]; rfl
theorem at_lt {α : Type} {l : List α} {j : Nat} {x : α} (h : l[j]? = some x) : j < l.length := by
  rcases Nat.lt_or_ge j l.length with h' | h'
  · exact h'
  · rw [List.getElem?_eq_none h'] at h; cases h
theorem cnt_zero (G : List Grp) : cntG (G.take 0) = 0 := rfl
theorem cnt_step {G : List Grp} {j : Nat} {k : Int} {L : List Prim} (h : G[j]? = some (k, L)) : cntG (G.take (j + 1)) = cntG (G.take j) + L.length := by
  unfold cntG; rw [take_at h]; simp
theorem cnt_le (G : List Grp) (j : Nat) : cntG (G.take j) ≤ cntG G := by
  unfold cntG
  conv => rhs; rw [← List.take_append_drop j G]
  rw [List.map_append, List.sum_append]
  omega
theorem cnt_item {G : List Grp} {j : Nat} {k : Int} {L : List Prim} (h : G[j]? = some (k, L)) : cntG (G.take j) + L.length ≤ cntG G := by
  rw [← cnt_step h]; exact cnt_le G _
theorem items_step {L : List Prim} {i : Nat} {c : Int} {r : ByteArray} (h : L[i]? = some (c, r)) : itemsL (L.take (i + 1)) = itemsL (L.take i) ++ (primS c r).data.toList := by
  unfold itemsL; rw [take_at h]; simp
theorem grps_step {G : List Grp} {j : Nat} {k : Int} {L : List Prim} (h : G[j]? = some (k, L)) : grpsL (G.take (j + 1)) = grpsL (G.take j) ++ (markL k ((L.length / (permL k).length : Nat) : Int) ++ itemsL L) := by
  unfold grpsL; rw [take_at h]; simp [grpL]
theorem items_le (L : List Prim) : (itemsL L).length ≤ 836 * L.length := by
  induction L with
  | nil => simp [itemsL]
  | cons x t ih =>
    have h := primS_le x.1 x.2
    have e : (itemsL (x :: t)).length = (primS x.1 x.2).data.toList.length + (itemsL t).length := by simp [itemsL]
    rw [e, Array.length_toList, List.length_cons]
    have h' : (primS x.1 x.2).data.size ≤ 836 := h
    omega
theorem markL_length (k n : Int) : (markL k n).length = 4 := by simp [markL, digsL_length]
theorem grps_le (G : List Grp) : (grpsL G).length ≤ 4 * G.length + 836 * cntG G := by
  induction G with
  | nil => simp [grpsL]
  | cons g t ih =>
    have h := items_le g.2
    have e : (grpsL (g :: t)).length = 4 + (itemsL g.2).length + (grpsL t).length := by simp [grpsL, grpL, markL_length]; omega
    have e2 : cntG (g :: t) = g.2.length + cntG t := by simp [cntG]
    rw [e, e2, List.length_cons]
    omega
theorem enc_size {G : List Grp} {j : Nat} {k : Int} {L : List Prim} (h : G[j]? = some (k, L)) (i : Nat) : (grpsL (G.take j)).length + 4 + (itemsL (L.take i)).length ≤ 4 * G.length + 836 * cntG G := by
  have h1 := grps_le (G.take j)
  have h2 := items_le (L.take i)
  have h3 := cnt_item h
  have h4 := at_lt h
  rw [List.length_take] at h1 h2
  have : min j G.length ≤ j := Nat.min_le_left _ _
  have : min i L.length ≤ L.length := Nat.min_le_right _ _
  omega
theorem items_zero {L : List Prim} (h : ∀ (p : Nat) (c : Int) (r : ByteArray), L[p]? = some (c, r) → primE c r = 0) : itemsE L = 0 := by
  induction L with
  | nil => rfl
  | cons x t ih =>
    rw [itemsE, if_pos (h 0 x.1 x.2 rfl)]
    exact ih fun p c r hp => h (p + 1) c r (by simpa using hp)
theorem items_at : ∀ {L : List Prim} {i : Nat} {c : Int} {r : ByteArray}, L[i]? = some (c, r) → (∀ p, p < i → ∀ c r, L[p]? = some (c, r) → primE c r = 0) → primE c r ≠ 0 → itemsE L = primE c r
  | [], _, _, _, h, _, _ => by simp at h
  | x :: t, 0, c, r, h, _, hn => by
    simp at h
    subst h
    rw [itemsE, if_neg hn]
  | x :: t, i + 1, c, r, h, hp, hn => by
    rw [itemsE, if_pos (hp 0 (by omega) x.1 x.2 rfl)]
    exact items_at (i := i) (by simpa using h) (fun p hlt c r he => hp (p + 1) (by omega) c r (by simpa using he)) hn
theorem grpsE_zero {G : List Grp} (h : ∀ (p : Nat) (k : Int) (L : List Prim), G[p]? = some (k, L) → itemsE L = 0) : grpsE G = 0 := by
  induction G with
  | nil => rfl
  | cons x t ih =>
    rw [grpsE, if_pos (h 0 x.1 x.2 rfl)]
    exact ih fun p c r hp => h (p + 1) c r (by simpa using hp)
theorem grpsE_at : ∀ {G : List Grp} {i : Nat} {k : Int} {L : List Prim}, G[i]? = some (k, L) → (∀ p, p < i → ∀ k L, G[p]? = some (k, L) → itemsE L = 0) → itemsE L ≠ 0 → grpsE G = itemsE L
  | [], _, _, _, h, _, _ => by simp at h
  | x :: t, 0, c, r, h, _, hn => by
    simp at h
    subst h
    rw [grpsE, if_neg hn]
  | x :: t, i + 1, c, r, h, hp, hn => by
    rw [grpsE, if_pos (hp 0 (by omega) x.1 x.2 rfl)]
    exact grpsE_at (i := i) (by simpa using h) (fun p hlt c r he => hp (p + 1) (by omega) c r (by simpa using he)) hn
theorem allF_of {G : List Grp} (h : ∀ j k L, j < G.length → G[j]? = some (k, L) → follL k L = true) : allF G = true := by
  unfold allF
  rw [List.all_eq_true]
  intro g hg
  obtain ⟨j, hj, rfl⟩ := List.getElem_of_mem hg
  exact h j _ _ hj (by rw [List.getElem?_eq_getElem hj])
theorem allF_not {G : List Grp} {j : Nat} {k : Int} {L : List Prim} (h : G[j]? = some (k, L)) (hf : follL k L = false) : allF G = false := by
  unfold allF
  rw [List.all_eq_false]
  exact ⟨(k, L), List.mem_of_getElem? h, by simp [hf]⟩
theorem enc_over {G : List Grp} (h : 1024 < cntG G) : encGS G = ⟨#[]⟩ ∧ encGE G = 3 := by
  unfold encGS encGE; rw [if_pos h, if_pos h]; exact ⟨rfl, rfl⟩
theorem enc_stray {G : List Grp} (h : ¬ 1024 < cntG G) {j : Nat} {k : Int} {L : List Prim} (hj : G[j]? = some (k, L)) (hf : follL k L = false) : encGS G = ⟨#[]⟩ ∧ encGE G = 7 := by
  unfold encGS encGE; rw [if_neg h, if_neg h, if_pos (allF_not hj hf), if_pos (allF_not hj hf)]; exact ⟨rfl, rfl⟩
theorem enc_bad {G : List Grp} (h : ¬ 1024 < cntG G) (hf : allF G = true) {j : Nat} {k : Int} {L : List Prim} (hj : G[j]? = some (k, L)) (hp : ∀ p, p < j → ∀ k L, G[p]? = some (k, L) → itemsE L = 0) {i : Nat} {c : Int} {r : ByteArray} (hi : L[i]? = some (c, r)) (hq : ∀ p, p < i → ∀ c r, L[p]? = some (c, r) → primE c r = 0) (hn : primE c r ≠ 0) : encGS G = ⟨#[]⟩ ∧ encGE G = primE c r := by
  have e1 := items_at hi hq hn
  have e2 := grpsE_at hj hp (by rw [e1]; exact hn)
  rw [e1] at e2
  unfold encGS encGE; simp [h, hf, e2, hn]
theorem enc_good {G : List Grp} (h : ¬ 1024 < cntG G) (hf : allF G = true) (hp : ∀ (p : Nat) (k : Int) (L : List Prim), G[p]? = some (k, L) → itemsE L = 0) : encGS G = strL (grpsL G) ∧ encGE G = 0 := by
  have e2 := grpsE_zero hp
  unfold encGS encGE; simp [h, hf, e2]
/-- Where the codes follow: the kind's pattern, and a mark that can be written. -/
theorem foll_mark {k : Int} {L : List Prim} (h : follL k L = true) (hl : L.length ≤ 1024) : (permL k).length ≠ 0 ∧ markS k ((L.length / (permL k).length : Nat) : Int) = strL (markL k ((L.length / (permL k).length : Nat) : Int)) := by
  have h0 : (permL k).length ≠ 0 := fun e => by rw [foll_none e] at h; cases h
  refine ⟨h0, ?_⟩
  have hk : ¬ (k < 1 ∨ 4 < k) := fun e => h0 (by rw [(permL_none k).2 e]; rfl)
  have hd : L.length / (permL k).length ≤ L.length := Nat.div_le_self _ _
  generalize L.length / (permL k).length = q at hd ⊢
  unfold markS
  rw [if_neg (by unfold badMark; omega)]

end Go.Proofs.YtdmgmfdmakheiaaDoor
