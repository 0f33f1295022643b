/- The document's comparison of groups. -/
import Derived.Test.YtdmgmfdmakheiaaDoorSbin
import Derived.Laws.StructEq
namespace Go.Proofs.YtdmgmfdmakheiaaDoor
open Go.ChangeShapes Go.WideShapes Go.ChangeAt Go.RowKit
set_option linter.unusedVariables false
set_option linter.unusedSimpArgs false

theorem list_eq_at {α : Type} {l m : List α} (h : l.length = m.length) (he : ∀ j, j < l.length → l[j]? = m[j]?) : l = m := by
  apply List.ext_getElem? 
  intro j
  rcases Nat.lt_or_ge j l.length with h' | h'
  · exact he j h'
  · rw [List.getElem?_eq_none h', List.getElem?_eq_none (by omega)]

/-- Two primitives compared. -/
theorem prim_guard (w : World) (op : BinOp) (x y : Operand) (xs ys : Array Value) : (eqGuard op 48 x y (.agg xs) (.agg ys)).run Tryd.prog w = .ok () w := run_eqGuard_agg w op _ x y xs ys (by kernel_rfl)
theorem prim_neq (w : World) (y z : Int) (u r : ByteArray) : (binOp .neq 48 (.agg #[.int .i64 y, .string u]) (.agg #[.int .i64 z, .string r])).run Tryd.prog w = .ok (.bool (!(y == z && u.toList == r.toList))) w := by
  have hs : Tryd.prog.underlying 48 = some (.struct (Tryd.prog.fieldsOf 48)) := by kernel_rfl
  have hh : Tryd.prog.stoodInHeld 48 = false := by kernel_rfl
  rw [run_neq_struct, run_equalIn_agg w 9999 _ _ _ hs hh]
  have hf : (Tryd.prog.fieldsOf 48).toList = [(Tryd.prog.fieldsOf 48)[0]!, (Tryd.prog.fieldsOf 48)[1]!] := by kernel_rfl
  rw [hf]
  have u0 := Tryd.underlying3
  have u1 := Tryd.underlying9
  simp [Op.eqFields, go_sem, u0, u1]
  by_cases h1 : y = z <;> by_cases h2 : u.toList = r.toList <;> simp [h1, h2]

set_option maxHeartbeats 4000000 in
set_option maxRecDepth 100000 in
theorem rsame_any (va vb : Value) (A D : List Grp) (w : World) (hA : GroupsAt w.heap.size w va A) (hD : GroupsAt w.heap.size w vb D) : Calls Tryd.prog 22 #[va, vb] w fun e w' => e = .returned (.bool (decide (A = D))) ∧ Below w.heap.size w w' := by
  obtain ⟨ao, cap, rfl, hac, ham, har⟩ := hA
  obtain ⟨bo, cbp, rfl, hdc, hdm, hdr⟩ := hD
  unfold maxLen at ham hdm
  have b0 := Below.refl w.heap.size w
  have HAR := Lib.hid har
  have HDR := Lib.hid hdr
  obtain ⟨R, hR⟩ : ∃ R, R = decide (A = D) := ⟨_, rfl⟩
  rw [← hR]
  have HR := Lib.hid hR
  clear har hdr hR
  by_cases hl : A.length = D.length
  · have hlb : ((A.length : Int) != (D.length : Int)) = false := by simp; omega
    go_enter Tryd.func22, Tryd.ntmps22
    go_wp2
    go_loopw [16] (fun i wr => ∃ j : Nat, j ≤ A.length ∧ i = .int .i64 j ∧ Below w.heap.size w wr ∧ ∀ q, q < j → A[q]? = D[q]?) (fun i _ => A.length - (intOf i).toNat)
    case atStart => exact ⟨0, Nat.zero_le _, rfl, b0, fun q hq => absurd hq (Nat.not_lt_zero _)⟩
    case round =>
      clear b0
      obtain ⟨j, hj, rfl, hB, hag⟩ := hrel
      have HG := Lib.hid hag
      clear hag
      by_cases hlt : j < A.length
      · obtain ⟨ba, oa, k, L, vj, hj', rfl, hbw, ce1, ce2, hp⟩ := HAR.out j hlt
        obtain ⟨bd, od, k', M, vk, hk', rfl, hdw, de1, de2, hq⟩ := HDR.out j (by omega)
        obtain ⟨ap, cp, rfl, hlp, hcp, hpr⟩ := hp
        obtain ⟨aq, cq, rfl, hlq, hcq, hqr⟩ := hq
        unfold maxLen at hcp hcq
        have E2 := Lib.hid de2
        have FA := Lib.hid hj'
        have FD := Lib.hid hk'
        have HPR := Lib.hid hpr
        have HQR := Lib.hid hqr
        replace ce1 := (hB.cell (p := ⟨ba, oa + j * 2, none⟩) hbw).trans ce1
        replace ce2 := (hB.cell (p := ⟨ba, oa + j * 2 + 1, none⟩) hbw).trans ce2
        have rb := hB.alloc (o := .cells #[.int .i64 k, .slice ap L.length cp] 28) hB.size
        have cg := two_new wr (.int .i64 k) (.slice ap L.length cp) 28
        have hjd : (j : Int) < (D.length : Int) := by omega
        clear hj' hk' hpr hqr
        go_upto_region 6 with fail
        have ne : bd ≠ wr.heap.size := by have := hB.size; omega
        replace de1 := (rb.cell (p := ⟨bd, od + j * 2, none⟩) hdw).trans de1
        replace de2 := (rb.cell (p := ⟨bd, od + j * 2 + 1, none⟩) hdw).trans de2
        have gs : wr.heap.size < (wr.alloc (.cells #[.int .i64 k, .slice ap L.length cp] 28)).heap.size := by simp
        obtain ⟨wa, hwa⟩ : ∃ wa, wa = wr.alloc (.cells #[.int .i64 k, .slice ap L.length cp] 28) := ⟨_, rfl⟩
        rw [← hwa] at cg de1 de2 rb gs
        rw [← hwa]
        obtain ⟨g, hg⟩ : ∃ g, g = wr.heap.size := ⟨_, rfl⟩
        rw [← hg] at cg gs
        rw [← hg]
        clear hwa hg ne ce1 ce2 hB
        obtain ⟨cg1, cg2⟩ := cg
        by_cases hkk : k = k'
        · have hkb : (k != k') = false := by simpa using hkk
          by_cases hLM : L.length = M.length
          · have hLb : ((L.length : Int) != (M.length : Int)) = false := by simp; omega
            go_quiet (fail)
            go_wp2
            have rq := bdrewN rb nq
            clear cg1 cg2 gs de1 de2 hkb hLb rb
            go_loopw [44] (fun i wv => ∃ t : Nat, t ≤ L.length ∧ i = .int .i64 t ∧ Below w.heap.size w wv ∧ ∀ q, q < t → L[q]? = M[q]?) (fun i _ => L.length - (intOf i).toNat)
            case atStart => exact ⟨0, Nat.zero_le _, rfl, rq, fun q hq => absurd hq (Nat.not_lt_zero _)⟩
            case round =>
              clear rq
              obtain ⟨t, ht, rfl, hB, hag⟩ := hrel
              have HI := Lib.hid hag
              clear hag
              by_cases htl : t < L.length
              · obtain ⟨be, oe, z, r, hz, rfl, hbe, d1, d2, hrs⟩ := HPR.out t htl
                obtain ⟨bf, of, y, u, hy, rfl, hbf, f1, f2, hrs2⟩ := HQR.out t (by omega)
                have FZ := Lib.hid hz
                have FY := Lib.hid hy
                replace d1 := (hB.cell (p := ⟨be, oe + t * 2, none⟩) hbe).trans d1
                replace d2 := (hB.cell (p := ⟨be, oe + t * 2 + 1, none⟩) hbe).trans d2
                have rb := hB.alloc (o := .cells #[.int .i64 z, .string r] 48) hB.size
                have cg := two_new wr (.int .i64 z) (.string r) 48
                have htM : (t : Int) < (M.length : Int) := by omega
                clear hz hy hrs hrs2
                go_upto_region 11 with fail
                replace f1 := (rb.cell (p := ⟨bf, of + t * 2, none⟩) hbf).trans f1
                replace f2 := (rb.cell (p := ⟨bf, of + t * 2 + 1, none⟩) hbf).trans f2
                have de2 := (rb.cell (p := ⟨bd, od + j * 2 + 1, none⟩) hdw).trans E2.out
                have gs : wr.heap.size < (wr.alloc (.cells #[.int .i64 z, .string r] 48)).heap.size := by simp
                obtain ⟨wa, hwa⟩ : ∃ wa, wa = wr.alloc (.cells #[.int .i64 z, .string r] 48) := ⟨_, rfl⟩
                rw [← hwa] at cg de2 rb gs f1 f2
                rw [← hwa]
                obtain ⟨g, hg⟩ : ∃ g, g = wr.heap.size := ⟨_, rfl⟩
                rw [← hg] at cg gs
                rw [← hg]
                clear hwa hg d1 d2 hB
                obtain ⟨cg1, cg2⟩ := cg
                have PG := fun (wx : World) => prim_guard wx
                have PN := fun (wx : World) => prim_neq wx y z u r
                obtain ⟨bv, hbv⟩ : ∃ b, b = !(y == z && u.toList == r.toList) := ⟨_, rfl⟩
                rw [← hbv] at PN
                have HBV := Lib.hid hbv
                clear hbv
                cases bv
                · have hzy : z = y ∧ r = u := by
                    have h := HBV.out
                    rw [ByteArray.toList_eq, ByteArray.toList_eq] at h
                    simp at h
                    exact ⟨h.1.symm, (ByteArray.ext h.2).symm⟩
                  have HZY := Lib.hid hzy
                  clear hzy
                  go_quiet (fail)
                  go_wp2
                  go_roundw
                  case rel =>
                    refine ⟨t + 1, by omega, by go_num, bdrewN rb _, fun q hq => ?_⟩
                    by_cases hqj : q < t
                    · exact HI.out q hqj
                    · obtain rfl : q = t := by omega
                      rw [FZ.out, FY.out, HZY.out.1, HZY.out.2]
                  case measure => simp [intOf]; omega
                · have hne : Hid (R = false) := Lib.hid (by
                    rw [HR.out]
                    apply decide_eq_false
                    intro e
                    have h1 := FA.out
                    rw [e, FD.out] at h1
                    cases h1
                    have h2 := FZ.out
                    rw [FY.out] at h2
                    cases h2
                    have h := HBV.out
                    simp at h)
                  go_quiet (fail)
                  go_wp2
                  go_ret
                  exact ⟨by rw [hne.out]; rfl, bdrewN rb _⟩
              · obtain rfl : t = L.length := by omega
                have hLMe : Hid (L = M) := Lib.hid (list_eq_at hLM HI.out)
                go_wp2
                go_roundw
                case rel =>
                  refine ⟨j + 1, by omega, by go_num, hB, fun q hq => ?_⟩
                  by_cases hqj : q < j
                  · exact HG.out q hqj
                  · obtain rfl : q = j := by omega
                    rw [FA.out, FD.out, hkk, hLMe.out]
                case measure => simp [intOf]; omega
          · have hLb : ((L.length : Int) != (M.length : Int)) = true := by simp; omega
            have hne : Hid (R = false) := Lib.hid (by
              rw [HR.out]
              apply decide_eq_false
              intro e
              have h1 := FA.out
              rw [e, FD.out] at h1
              cases h1
              exact hLM rfl)
            clear hLM
            go_quiet (fail)
            go_wp2
            go_ret
            exact ⟨by rw [hne.out]; rfl, bdrewN rb _⟩
        · have hkb : (k != k') = true := by simpa using hkk
          have hne : Hid (R = false) := Lib.hid (by
            rw [HR.out]
            apply decide_eq_false
            intro e
            have h1 := FA.out
            rw [e, FD.out] at h1
            cases h1
            exact hkk rfl)
          clear hkk
          go_quiet (fail)
          go_wp2
          go_ret
          exact ⟨by rw [hne.out]; rfl, bdrewN rb _⟩
      · obtain rfl : j = A.length := by omega
        have hye : Hid (R = true) := Lib.hid (by
          rw [HR.out]
          exact decide_eq_true (list_eq_at hl HG.out))
        go_wp2
        go_ret
        exact ⟨by rw [hye.out]; rfl, hB⟩
  · have hlb : ((A.length : Int) != (D.length : Int)) = true := by simp; omega
    have hne : Hid (R = false) := Lib.hid (by
      rw [HR.out]
      apply decide_eq_false
      intro e
      rw [e] at hl
      exact hl rfl)
    clear hl
    go_enter Tryd.func22, Tryd.ntmps22
    go_wp2
    go_ret
    exact ⟨by rw [hne.out]; rfl, b0⟩

end Go.Proofs.YtdmgmfdmakheiaaDoor
