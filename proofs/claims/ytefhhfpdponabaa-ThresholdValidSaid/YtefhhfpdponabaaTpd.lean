/- The program's members and Enough: a set of numbers as a map; a closure that counts the keys. -/
import Derived.Maps.OwnSet
import Derived.Maps.Own
import Derived.Maps.OwnOps
import Derived.Test.YtefhhfpdponabaaTpc
namespace Go.Proofs.Ytefhhfpdponabaa
open Go Go.Maps Go.ChangeShapes Go.WideShapes Go.ChangeAt Go.RowKit
set_option linter.unusedVariables false
set_option linter.unusedSimpArgs false

def setZ : List Int → DataW Unit
  | [] => .map []
  | z :: zs => (setZ zs).put (.int .i64 z) (.lit (.bool true))
theorem setZ_isMap : ∀ zs, IsMap (setZ zs)
  | [] => isMap_empty
  | _ :: zs => (setZ_isMap zs).put _ _
theorem setZ_has (z : Int) : ∀ zs, Maps.has (setZ zs) (.int .i64 z) = decide (z ∈ zs)
  | [] => rfl
  | y :: zs => by
    unfold setZ
    by_cases h : z = y
    · subst h
      rw [has_put_same (setZ_isMap zs) (show WideAt.IsKeyLit (.int .i64 z) from trivial)]
      simp
    · rw [has_put_other (by intro e; simp only [Lit.int.injEq, true_and] at e; first | exact h e | exact h e.symm), setZ_has z zs]
      simp [h]
theorem setZ_at (z : Int) : ∀ zs, (setZ zs).atKey (.int .i64 z) (.lit (.bool false)) = .lit (.bool (decide (z ∈ zs)))
  | [] => rfl
  | y :: zs => by
    unfold setZ
    by_cases h : z = y
    · subst h
      rw [atKey_put_same (setZ_isMap zs) (show WideAt.IsKeyLit (.int .i64 z) from trivial)]
      simp
    · rw [atKey_put_other (by intro e; simp only [Lit.int.injEq, true_and] at e; first | exact h e | exact h e.symm), setZ_at z zs]
      simp [h]
theorem plainElem_bool_inv2 {P : Program} {e : TypeId} {H : Type} (he : P.underlying e = some .bool) {v : Value} {z : DataW H × List MemPlace} (h : plainElem P e v = some z) : ∃ x, v = .bool x ∧ z = (.lit (.bool x), []) := by
  unfold plainElem at h
  rw [he] at h
  cases v <;> simp at h
  exact ⟨_, rfl, h.symm⟩
/-- How many numbers from 0 to 7. -/
theorem setZ_size : ∀ zs : List Int, (∀ z ∈ zs, 0 ≤ z ∧ z < 8) → Tidy (setZ zs) ∧ Maps.size (setZ zs) = cnt (fun k => decide ((k : Int) ∈ zs)) 8
  | [], _ => ⟨⟨[], rfl, List.Pairwise.nil⟩, rfl⟩
  | z :: zs, h => by
    obtain ⟨h1, h2⟩ := setZ_size zs (fun y hy => h y (.tail _ hy))
    obtain ⟨z0, z8⟩ := h z (.head _)
    obtain ⟨n, rfl⟩ : ∃ n : Nat, z = (n : Int) := ⟨z.toNat, by omega⟩
    refine ⟨h1.put (show WideAt.IsKeyLit (.int .i64 (n : Int)) from trivial) _, ?_⟩
    show Maps.size ((setZ zs).put _ _) = _
    rw [size_put h1, setZ_has, h2]
    by_cases hm : (n : Int) ∈ zs
    · rw [if_pos (by rw [decide_eq_true hm])]
      refine cnt_ext 8 (fun k _ => ?_)
      rw [decide_eq_decide, List.mem_cons]
      constructor
      · exact .inr
      · rintro (e | e)
        · rw [e]; exact hm
        · exact e
    · rw [if_neg (by rw [decide_eq_false hm]; decide)]
      refine (cnt_set n 8 (by omega) (decide_eq_false hm) (fun k _ => ?_)).symm
      rw [Bool.eq_iff_iff, decide_eq_true_eq, List.mem_cons, Bool.or_eq_true, decide_eq_true_eq, beq_iff_eq]
      constructor
      · rintro (e | e)
        · exact .inr (by omega)
        · exact .inl e
      · rintro (e | e)
        · exact .inr e
        · exact .inl (by omega)
theorem lawI13 : Keyed Try.prog 3 := int_keyed Try.underlying3
theorem zeroB13 (w : World) : (zeroValue 4).run Try.prog w = .ok (.bool false) w := by kernel_rfl
/-- Block m is the set of those numbers from 0 to 7 for which p holds. -/
def MemAt (w : World) (m : Nat) (p : Nat → Bool) : Prop := ∃ ks : List Int, w.ownsMap Try.prog 3 (plainElem (H := Unit) Try.prog 4) m ks.length (setZ ks) ∧ (∀ z ∈ ks, 0 ≤ z ∧ z < 8) ∧ ∀ k : Nat, k < 8 → p k = decide ((k : Int) ∈ ks)
theorem MemAt.kept {w w' : World} {m : Nat} {p : Nat → Bool} {row : Option Nat} (h : MemAt w m p) (hg : w.grownBy w' row) (hne : some m ≠ row) : MemAt w' m p := by
  obtain ⟨ks, h1, h2, h3⟩ := h
  exact ⟨ks, World.ownsMap.kept h1 hg hne, h2, h3⟩
theorem MemAt.lt {w : World} {m : Nat} {p : Nat → Bool} (h : MemAt w m p) : m < w.heap.size := by
  obtain ⟨ks, h1, -, -⟩ := h
  exact World.ownsMap.lt h1
theorem MemAt.look {w : World} {m : Nat} {p : Nat → Bool} (h : MemAt w m p) {k : Nat} (hk : k < 8) : (Instr.lookup 57 (.map (some m)) (.int .i64 (k : Int)) false).run Try.prog w = .ok (.bool (p k)) w := by
  obtain ⟨ks, h1, h2, h3⟩ := h
  have hwf : (Lit.int IntKind.i64 (k : Int)).wf = true := by simp [Lit.wf, IntKind.min, IntKind.max, IntKind.signed, IntKind.bits]; omega
  obtain ⟨v, ps, hrun, hv⟩ := World.ownsMap.lookup h1 lawI13 Try.underlying57 (zeroB13 w) (plainElem_bool Try.underlying4 false) (keyOf_int_mk Try.underlying3 hwf)
  obtain ⟨x, rfl, e'⟩ := plainElem_bool_inv2 Try.underlying4 hv
  rw [setZ_at] at e'
  simp only [Prod.mk.injEq, DataW.lit.injEq, Lit.bool.injEq] at e'
  rw [hrun, h3 k hk, e'.1]
theorem MemAt.len {w : World} {m : Nat} {p : Nat → Bool} (h : MemAt w m p) (ty : TypeId) : (Builtin.len_ #[57] ty #[.map (some m)]).run Try.prog w = .ok (.int .i64 (cnt p 8 : Nat)) w := by
  obtain ⟨ks, h1, h2, h3⟩ := h
  rw [World.ownsMap.len h1 Try.underlying57 ty, (setZ_size ks h2).2, cnt_ext 8 (fun k hk => (h3 k hk).symm)]
set_option maxHeartbeats 1600000 in
set_option maxRecDepth 100000 in
theorem tmembers_any (B : Nat) (sv : Value) (zs : List Int) (w : World) (hz : IntsAt B w sv zs) (hB : B ≤ w.heap.size) (hzs : zs.length ≤ 1000000) : Calls Try.prog 34 #[sv] w fun e w' => e = .returned (.map (some w.heap.size)) ∧ MemAt w' w.heap.size (inS zs) ∧ Below w.heap.size w w' := by
  obtain ⟨zo, zc, rfl, hzc, hzm, zcells⟩ := hz
  have HZ := Lib.hid zcells
  have hmm := @run_makeMap Try.prog
  have h0 := World.ownsMap_made (H := Unit) w Try.prog 3 (plainElem (H := Unit) Try.prog 4)
  have b0 := (Below.refl w.heap.size w).alloc (o := .map #[] 0) (Nat.le_refl _)
  have H0 := Lib.hid h0
  clear h0 zcells
  go_enter Try.func34, Try.ntmps34
  go_wp2
  go_loopw [5, 9] (fun _ i wr => ∃ (j : Nat) (ks : List Int), i = .int .i64 j ∧ j ≤ zs.length ∧ ks.length ≤ j ∧ wr.ownsMap Try.prog 3 (plainElem (H := Unit) Try.prog 4) w.heap.size ks.length (setZ ks) ∧ Hid (∀ z ∈ ks, 0 ≤ z ∧ z < 8) ∧ Hid (∀ k : Nat, k < 8 → inS (zs.take j) k = decide ((k : Int) ∈ ks)) ∧ Below w.heap.size w wr) (fun _ i _ => zs.length - (intOf i).toNat)
  case atStart => exact ⟨0, [], rfl, Nat.zero_le _, Nat.le_refl _, H0.out, Lib.hid (fun z h => by cases h), Lib.hid (fun k _ => rfl), b0⟩
  case round =>
    obtain ⟨j, ks, rfl, hj, hkl, hown, hin, hk, hB⟩ := hrel
    clear H0 b0
    by_cases hlt : j < zs.length
    · obtain ⟨z, hzj⟩ : ∃ z, zs[j]? = some z := ⟨_, List.getElem?_eq_getElem hlt⟩
      obtain ⟨g, off, rfl, hg, c1⟩ := HZ.out j z hzj
      have d1 := (hB.cell (p := ⟨g, _, none⟩) (by show g < w.heap.size; omega)).trans c1
      have hsn : ∀ k, inS (zs.take (j + 1)) k = (inS (zs.take j) k || z == (k : Int)) := fun k => by
        rw [List.take_add_one, hzj]; exact inS_snoc _ _ _
      have HSN := Lib.hid hsn
      clear c1 hzj hsn
      by_cases z0 : 0 ≤ z
      · by_cases z8 : z < 8
        · have hkey : Hid (keyOf Try.prog 3 (.int .i64 z) = some (.int .i64 z)) := Lib.hid (keyOf_int_mk Try.underlying3 (by simp [Lit.wf, IntKind.min, IntKind.max, IntKind.signed, IntKind.bits]; omega))
          have HO := Lib.hid hown
          clear hown
          go_wp2_with (at_mapUpdate; refine wpList_mapUpdate_own _ rfl _ _ _ 57 rfl 3 4 lawI13 Try.underlying57 _ w.heap.size ks.length _ rfl HO.out (by unfold maxLen; omega) _ _ _ rfl rfl hkey.out _ [] (plainElem_bool Try.underlying4 true) ?_; intro w2 hown2 hgrow2)
          have hB2 := gbelow hB hgrow2 hB.size (Nat.le_refl _)
          have HO2 := Lib.hid hown2
          clear hown2 hgrow2
          go_roundw
          case rel =>
            refine ⟨j + 1, z :: ks, by go_num, by omega, by simp; omega, HO2.out, Lib.hid (fun y hy => ?_), Lib.hid (fun k hk8 => ?_), hB2⟩
            · rcases List.mem_cons.1 hy with rfl | hy
              · exact ⟨z0, z8⟩
              · exact hin.out y hy
            · rw [HSN.out, hk.out k hk8, Bool.eq_iff_iff, Bool.or_eq_true, decide_eq_true_eq, decide_eq_true_eq, beq_iff_eq, List.mem_cons]
              constructor
              · rintro (e | e)
                · exact .inr e
                · exact .inl e.symm
              · rintro (e | e)
                · exact .inr e.symm
                · exact .inl e
          case measure => simp [intOf]; omega
        · go_wp2
          go_roundw
          case rel => exact ⟨j + 1, ks, by go_num, by omega, by omega, hown, hin, Lib.hid (fun k hk8 => by rw [HSN.out, hk.out k hk8, show (z == (k : Int)) = false by simp; omega, Bool.or_false]), hB⟩
          case measure => simp [intOf]; omega
      · go_wp2
        go_roundw
        case rel => exact ⟨j + 1, ks, by go_num, by omega, by omega, hown, hin, Lib.hid (fun k hk8 => by rw [HSN.out, hk.out k hk8, show (z == (k : Int)) = false by simp; omega, Bool.or_false]), hB⟩
        case measure => simp [intOf]; omega
    · obtain rfl : j = zs.length := by omega
      have hk' := hk.out
      rw [List.take_length] at hk'
      have HK := Lib.hid hk'
      clear hk' hk
      go_wp2
      go_ret
      exact ⟨rfl, ⟨ks, hown, hin.out, HK.out⟩, hB⟩
end Go.Proofs.Ytefhhfpdponabaa
