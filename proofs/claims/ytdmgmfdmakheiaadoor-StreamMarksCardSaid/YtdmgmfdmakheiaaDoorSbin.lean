/- The document's Binary of groups, and its comparison of groups. -/
import Derived.Test.YtdmgmfdmakheiaaDoorSenc
import Derived.BigQuiet
namespace Go.Proofs.YtdmgmfdmakheiaaDoor
open Go.ChangeShapes Go.WideShapes Go.ChangeAt Go.RowKit
set_option linter.unusedVariables false
set_option linter.unusedSimpArgs false

theorem encGS_size (G : List Grp) : (encGS G).size ≤ 4 * G.length + 856064 := by
  unfold encGS
  by_cases h1 : 1024 < cntG G
  · rw [if_pos h1]; exact Nat.zero_le _
  · rw [if_neg h1]
    by_cases h2 : allF G = false
    · rw [if_pos h2]; exact Nat.zero_le _
    · rw [if_neg h2]
      by_cases h3 : grpsE G ≠ 0
      · rw [if_pos h3]; exact Nat.zero_le _
      · rw [if_neg h3]
        have h := grps_le G
        have e : (strL (grpsL G)).size = (grpsL G).length := by show (grpsL G).toArray.size = _; simp
        rw [e]; omega
/-- What Binary returns. -/
def binGS (G : List Grp) : ByteArray := if encGE G ≠ 0 then ⟨#[]⟩ else decFS (encGS G).data.toList
def binGE (G : List Grp) : Int := if encGE G ≠ 0 then encGE G else decFE (encGS G).data.toList

set_option maxRecDepth 100000 in
theorem rbinG_any (vi : Value) (G : List Grp) (w : World) (hG : GroupsAt w.heap.size w vi G) (hlen : G.length ≤ 1000000) (hcnt : cntG G ≤ 1000000) : Calls Tryd.prog 15 #[vi] w fun e w' => e = .returned (.tuple #[.string (binGS G), .int .i64 (binGE G)]) ∧ Below w.heap.size w w' := by
  have EN0 := renc_any vi G w hG hlen hcnt
  obtain ⟨ao, cap, rfl, _, _, _⟩ := hG
  have hsz := encGS_size G
  have RB0 := fun wx : World => rbinary_any (encGS G) wx (by unfold maxLen; omega)
  unfold binGS binGE
  obtain ⟨S, hS⟩ : ∃ S, S = encGS G := ⟨_, rfl⟩
  obtain ⟨E, hE⟩ : ∃ E, E = encGE G := ⟨_, rfl⟩
  rw [← hS, ← hE] at EN0
  rw [← hS] at RB0
  rw [← hS, ← hE]
  obtain ⟨D, hD⟩ : ∃ D, D = decFS S.data.toList := ⟨_, rfl⟩
  obtain ⟨F, hF⟩ : ∃ D, D = decFE S.data.toList := ⟨_, rfl⟩
  rw [← hD, ← hF] at RB0
  rw [← hD, ← hF]
  have EN := Lib.hid EN0
  have RB := Lib.hid RB0
  clear EN0 RB0 hS hE hD hF hsz hlen hcnt
  by_cases h0 : E = 0
  · subst h0
    rw [if_neg (by decide), if_neg (by decide)]
    go_enter Tryd.func15, Tryd.ntmps15
    go_wp2_with (first
      | (go_at_call 13; (with_reducible refine (EN.out).mono ?_); rintro e w1 ⟨rfl, hb1⟩)
      | (go_at_call 37; (with_reducible refine (RB.out _).mono ?_); rintro e w2 ⟨rfl, hb2⟩))
    go_ret2
    exact ⟨rfl, hb1.trans (hb2.mono hb1.size)⟩
  · have hen : (E != 0) = true := by simpa using h0
    rw [if_pos h0, if_pos h0]
    clear h0
    go_enter Tryd.func15, Tryd.ntmps15
    go_wp2_with (first
      | (go_at_call 13; (with_reducible refine (EN.out).mono ?_); rintro e w1 ⟨rfl, hb1⟩))
    go_ret2
    exact ⟨rfl, hb1⟩

end Go.Proofs.YtdmgmfdmakheiaaDoor
