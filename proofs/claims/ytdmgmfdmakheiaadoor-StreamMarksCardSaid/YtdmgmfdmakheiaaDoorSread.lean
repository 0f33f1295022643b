/- Reading a group as plain data: which codes its mark asks for, and what is read under them, one primitive behind the other. -/
import Derived.Test.YtdmgmfdmakheiaaDoorSpure
namespace Go.Proofs.YtdmgmfdmakheiaaDoor
open Go Go.RowKit
set_option linter.unusedVariables false
set_option linter.unusedSimpArgs false

/-- The kind that a letter names. -/
def kindB (b : UInt8) : Int := if b = 65 then 1 else if b = 66 then 2 else if b = 67 then 3 else if b = 71 then 4 else 0
/-- The codes of n items of a kind. -/
def codesN (k : Int) (n : Nat) : List Int := (List.replicate n (permL k)).flatten
def restQ (t : ByteArray) : ByteArray := t.extract (decQ t).n.toNat t.size
/-- The error of reading under codes, what is read, and what is left. -/
def gE : List Int → ByteArray → Int
  | [], _ => 0
  | c :: cs, t => if (decQ t).e ≠ 0 then (decQ t).e else if (decQ t).c ≠ c then 7 else gE cs (restQ t)
def gL : List Int → ByteArray → List Prim
  | [], _ => []
  | _ :: cs, t => ((decQ t).c, (decQ t).raw) :: gL cs (restQ t)
def gR : List Int → ByteArray → ByteArray
  | [], t => t
  | _ :: cs, t => gR cs (restQ t)
/-- How far a reading has come. -/
def Far (all : List Int) (t0 : ByteArray) (acc : List Prim) (cs : List Int) (t : ByteArray) : Prop :=
  gE all t0 = gE cs t ∧ (gE all t0 = 0 → gL all t0 = acc ++ gL cs t ∧ gR all t0 = gR cs t)
theorem far_start (all : List Int) (t0 : ByteArray) : Far all t0 [] all t0 := ⟨rfl, fun _ => ⟨rfl, rfl⟩⟩
theorem far_err {all : List Int} {t0 : ByteArray} {acc : List Prim} {c : Int} {cs : List Int} {t : ByteArray} (h : Far all t0 acc (c :: cs) t) (he : (decQ t).e ≠ 0) : gE all t0 = (decQ t).e := by
  rw [h.1, gE, if_pos he]
theorem far_code {all : List Int} {t0 : ByteArray} {acc : List Prim} {c : Int} {cs : List Int} {t : ByteArray} (h : Far all t0 acc (c :: cs) t) (he : (decQ t).e = 0) (hc : (decQ t).c ≠ c) : gE all t0 = 7 := by
  rw [h.1, gE, if_neg (fun h => h he), if_pos hc]
theorem far_next {all : List Int} {t0 : ByteArray} {acc : List Prim} {c : Int} {cs : List Int} {t : ByteArray} (h : Far all t0 acc (c :: cs) t) (he : (decQ t).e = 0) (hc : (decQ t).c = c) : Far all t0 (acc ++ [((decQ t).c, (decQ t).raw)]) cs (restQ t) := by
  obtain ⟨h1, h2⟩ := h
  refine ⟨by rw [h1, gE, if_neg (fun h => h he), if_neg (fun h => h hc)], fun h0 => ?_⟩
  obtain ⟨h3, h4⟩ := h2 h0
  rw [gL] at h3
  rw [gR] at h4
  exact ⟨by rw [h3]; simp, h4⟩
theorem far_end {all : List Int} {t0 : ByteArray} {acc : List Prim} {t : ByteArray} (h : Far all t0 acc [] t) : gE all t0 = 0 ∧ gL all t0 = acc ∧ gR all t0 = t := by
  obtain ⟨h1, h2⟩ := h
  have h0 : gE all t0 = 0 := by rw [h1]; rfl
  obtain ⟨h3, h4⟩ := h2 h0
  exact ⟨h0, by rw [h3]; simp [gL], by rw [h4]; rfl⟩
theorem codes_cons (k : Int) (n : Nat) : codesN k (n + 1) = permL k ++ codesN k n := by
  unfold codesN
  rw [List.replicate_succ, List.flatten_cons]
theorem drop_at {l : List Int} {q : Nat} (h : q < l.length) : l.drop q = l.getD q 0 :: l.drop (q + 1) := by
  rw [List.drop_eq_getElem_cons h]
  simp [List.getD, List.getElem?_eq_getElem h]
/-- The mark with which a text begins: may it be read, its kind, its number. -/
def markOk (t : ByteArray) : Bool := decide (4 ≤ t.size) && decide (t.data.toList.getD 0 0 = 45) && decide (kindB (t.data.toList.getD 1 0) ≠ 0) && decide (parE ((t.extract 2 4).data.toList) = 0)
def markK (t : ByteArray) : Int := kindB (t.data.toList.getD 1 0)
def markC (t : ByteArray) : Nat := (parN ((t.extract 2 4).data.toList)).toNat
/-- What Group answers. -/
def grpE (t : ByteArray) : Int := if markOk t = false then 4 else gE (codesN (markK t) (markC t)) (t.extract 4 t.size)
def grpItems (t : ByteArray) : List Prim := gL (codesN (markK t) (markC t)) (t.extract 4 t.size)
def grpR (t : ByteArray) : ByteArray := if grpE t ≠ 0 then ⟨#[]⟩ else gR (codesN (markK t) (markC t)) (t.extract 4 t.size)

end Go.Proofs.YtdmgmfdmakheiaaDoor
