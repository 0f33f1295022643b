/- Hexadecimal digits: what the library reads. -/
import Derived.Test.YtmlmdidaldcoiaaDoorVhx
import Derived.Lib.AtoiAllCases
namespace Go.Proofs.YtmlmdidaldcoiaaDoor
open Go Go.ChangeShapes Go.WideShapes Go.ChangeAt Go.RowKit
set_option linter.unusedVariables false
set_option linter.unusedSimpArgs false

/-- What a digit of any kind means to the library. -/
def vdV (n : Nat) : Nat := if 48 ≤ n ∧ n ≤ 57 then n - 48 else (bits .or .u8 (n : Int) 32).toNat - 87
theorem vdV_hex {c : UInt8} {x : Nat} (h : vhD c = some x) : ((48 ≤ c.toNat ∧ c.toNat ≤ 57) ∨ (¬ (48 ≤ c.toNat ∧ c.toNat ≤ 57) ∧ 97 ≤ bits .or .u8 (c.toNat : Int) 32 ∧ bits .or .u8 (c.toNat : Int) 32 ≤ 122)) ∧ vdV c.toNat = x ∧ x < 16 := by
  have : ∀ n : Fin 256, (vhD (UInt8.ofNat n.1)).isSome = true → ((48 ≤ n.1 ∧ n.1 ≤ 57) ∨ (¬ (48 ≤ n.1 ∧ n.1 ≤ 57) ∧ 97 ≤ bits .or .u8 (n.1 : Int) 32 ∧ bits .or .u8 (n.1 : Int) 32 ≤ 122)) ∧ vdV n.1 = (vhD (UInt8.ofNat n.1)).getD 0 ∧ (vhD (UInt8.ofNat n.1)).getD 0 < 16 := by decide +kernel
  have hc := this ⟨c.toNat, c.toNat_lt⟩
  rw [show UInt8.ofNat c.toNat = c from UInt8.ofNat_toNat, h] at hc
  exact hc rfl
def vhV (l : List UInt8) : Nat := l.foldl (fun a c => a * 16 + vdV c.toNat) 0
theorem vhV_snoc (l : List UInt8) (c : UInt8) : vhV (l ++ [c]) = vhV l * 16 + vdV c.toNat := by unfold vhV; rw [List.foldl_append]; rfl
theorem vhN_inv : ∀ {l : List UInt8} {v : Nat}, vhN l = some v → (∀ c, c ∈ l → ∃ x, vhD c = some x) ∧ v = vhV l := by
  have key : ∀ (k : Nat) (l : List UInt8) (v : Nat), l.length = k → vhN l = some v → (∀ c, c ∈ l → ∃ x, vhD c = some x) ∧ v = vhV l := by
    intro k
    induction k with
    | zero =>
      intro l v hl h
      rw [List.length_eq_zero_iff.1 hl] at h ⊢
      cases h
      exact ⟨fun c hc => (by cases hc), rfl⟩
    | succ k ih =>
      intro l v hl h
      have hne : l ≠ [] := by intro e; subst e; cases hl
      rw [← List.dropLast_concat_getLast hne] at h ⊢
      have hdl : l.dropLast.length = k := by rw [List.length_dropLast]; omega
      generalize l.dropLast = t at h hdl ⊢
      generalize l.getLast hne = c at h ⊢
      rw [vhN_snoc] at h
      cases ht : vhN t with
      | none => rw [ht] at h; cases h
      | some m =>
        cases hd : vhD c with
        | none => rw [ht, hd] at h; cases h
        | some d =>
          rw [ht, hd] at h
          have h : 16 * m + d = v := Option.some.inj h
          obtain ⟨i1, i2⟩ := ih t m hdl ht
          refine ⟨fun x hx => ?_, ?_⟩
          · rcases List.mem_append.1 hx with hx | hx
            · exact i1 x hx
            · cases List.mem_singleton.1 hx; exact ⟨d, hd⟩
          · rw [vhV_snoc, (vdV_hex hd).2.1, ← i2, ← h]; omega
  intro l v h
  exact key _ l v rfl h
def VErr (w : World) : Prop := ∃ t p, w.cell? ⟨1, 0, none⟩ = some (.iface t p)
theorem VErr.below {w w' : World} (h : VErr w) (hb : Below w.heap.size w w') : VErr w' := by
  obtain ⟨t, p, h1⟩ := h
  exact ⟨t, p, (hb.cell (p := ⟨_, 0, none⟩) (cell_lt h1)).trans h1⟩
theorem vlower_any (c : Int) (w : World) : Calls Tryd.prog 64 #[.int .u8 c] w fun e w' => e = .returned (.int .u8 (bits .or .u8 c 32)) ∧ w = w' := by
  go_enter Tryd.func64, Tryd.ntmps64
  go_wp2
  go_ret
  exact ⟨rfl, rfl⟩
/-- Two hexadecimal digits are read, or there is an error of syntax. -/
def VnPost (s : ByteArray) (w : World) (e : Ending) (w' : World) : Prop := ∃ (v : Nat) (ev : Value), e = .returned (.tuple #[.int .u64 (v : Int), ev]) ∧ v < 16777216 ∧ (ev = .nilIface ∨ ev = .iface 90 (.int .i64 2)) ∧ (∀ u, vhN s.data.toList = some u → 0 < s.size → v = u ∧ ev = .nilIface) ∧ Below w.heap.size w w'
set_option maxHeartbeats 4000000 in
set_option maxRecDepth 1000000 in
theorem vipu_any (s : ByteArray) (w : World) (hs : s.size ≤ 6) : Calls Tryd.prog 52 #[.string s, .int .i64 16, .int .i64 64] w (VnPost s w) := by
  have qm : IntKind.u64.wrap (IntKind.u64.wrap 18446744073709551616 - 1) = 18446744073709551615 := by decide
  by_cases hne : s.size = 0
  · have hnil : s.data.toList = [] := List.length_eq_zero_iff.1 (by rw [← Lib.size_eq]; exact hne)
    have hemp : s.toList.isEmpty = true := by rw [Lib.toList_data, hnil]; rfl
    go_enter Tryd.func52, Tryd.ntmps52
    go_wp2
    go_ret2
    exact ⟨0, _, rfl, by decide, .inr rfl, (fun u hu h0 => by omega), Below.refl _ _⟩
  · have hemp : s.toList.isEmpty = false := by
      rw [Lib.toList_data]
      cases h : s.data.toList with
      | nil => have := Lib.size_eq s; rw [h, List.length_nil] at this; omega
      | cons _ _ => rfl
    have hB : ∀ j, j < s.size → (Lib.bytesWorld w 5 s).cell? ⟨w.heap.size, j, none⟩ = some (.int .u8 (s.data.toList.getD j 0).toNat) := fun j hj => Lib.bytesWorld_cell w 5 s j hj
    have hcv := Lib.run_convert_string_bytes (P := Tryd.prog) w 9 55 5 s (u := .string) Tryd.underlying9 Tryd.underlying55 Tryd.underlying5
    have hbl : Below w.heap.size w (Lib.bytesWorld w 5 s) := Lib.bytesWorld_below _ _ _
    obtain ⟨W1, hW1⟩ : ∃ W1, W1 = Lib.bytesWorld w 5 s := ⟨_, rfl⟩
    rw [← hW1] at hcv hB hbl
    clear hW1
    obtain ⟨bs, hL⟩ : ∃ bs, bs = s.data.toList := ⟨_, rfl⟩
    have hLn : bs.length = s.size := by rw [hL, Lib.size_eq]
    have HL := Lib.hid hL
    rw [← hL] at hB
    clear hL
    go_enter Tryd.func52, Tryd.ntmps52
    go_upto_region 36 with fail
    go_loopw [12, 13, 101] (fun vu vn vi wr => ∃ (k a : Nat) (z : Int), vu = .bool false ∧ vn = .int .u64 z ∧ vi = .int .i64 (k : Int) ∧ wr = W1 ∧ k ≤ s.size ∧ Hid (z = (a : Int) ∧ a < 16 ^ k ∧ a = vhV (bs.take k))) (fun _ _ vi _ => s.size - (intOf vi).toNat)
    case atStart => exact ⟨0, 0, 0, rfl, rfl, rfl, rfl, by omega, Lib.hid ⟨rfl, by decide, rfl⟩⟩
    case round =>
      obtain ⟨k, a, z, rfl, rfl, rfl, rfl, hk, hh0⟩ := hrel
      obtain ⟨hza, hh⟩ := hh0.out
      have hh := Lib.hid hh
      clear hh0
      by_cases hkn : k < s.size
      · have hc := hB k hkn
        have hg : bs[k]? = some (bs.getD k 0) := by rw [List.getD_eq_getElem?_getD, List.getElem?_eq_getElem (by omega)]; rfl
        generalize bs.getD k 0 = c at hc hg
        have HG := Lib.hid hg
        clear hg hB
        have hc256 : c.toNat < 256 := c.toNat_lt
        have ha16 : a < 1048576 := by
          have h1 := hh.out.1
          have h2 : 16 ^ k ≤ 16 ^ 5 := Nat.pow_le_pow_right (by decide) (by omega)
          have h3 : 16 ^ 5 = 1048576 := by decide
          omega
        have hac : z < 1152921504606846976 := by omega
        have hbad : ¬ (((48 ≤ c.toNat ∧ c.toNat ≤ 57) ∨ (¬ (48 ≤ c.toNat ∧ c.toNat ≤ 57) ∧ 97 ≤ bits .or .u8 (c.toNat : Int) 32 ∧ bits .or .u8 (c.toNat : Int) 32 ≤ 122)) ∧ vdV c.toNat < 16) → ∀ u, ¬ vhN s.data.toList = some u := by
          intro hno u hu
          rw [← HL.out] at hu
          obtain ⟨x, hx⟩ := (vhN_inv hu).1 c (List.mem_of_getElem? HG.out)
          obtain ⟨g1, g2, g3⟩ := vdV_hex hx
          exact hno ⟨g1, by omega⟩
        have HBAD := Lib.hid hbad
        have HH := Lib.hid hh.out
        have hlo := bits_lo_u8 .or (c.toNat : Int) 32
        have hhi := bits_hi_u8 .or (c.toNat : Int) 32
        have LOW := Lib.hid (fun wx => vlower_any (c.toNat : Int) wx)
        have hdv : ¬ (48 ≤ c.toNat ∧ c.toNat ≤ 57) → vdV c.toNat = (bits .or .u8 (c.toNat : Int) 32).toNat - 87 := fun h => by unfold vdV; rw [if_neg h]
        have hdw : (48 ≤ c.toNat ∧ c.toNat ≤ 57) → vdV c.toNat = c.toNat - 48 := fun h => by unfold vdV; rw [if_pos h]
        have h95 : c.toNat = 95 → bits .or .u8 (c.toNat : Int) 32 = 127 := fun h => by rw [h]; decide
        have NX : Hid (vdV c.toNat < 16 → a * 16 + vdV c.toNat < 16 ^ (k + 1) ∧ a * 16 + vdV c.toNat = vhV (bs.take (k + 1))) := Lib.hid fun h => by
          refine ⟨by rw [Nat.pow_succ]; have := hh.out.1; omega, ?_⟩
          rw [List.take_add_one, HG.out, Option.toList_some, vhV_snoc, ← hh.out.2]
        clear hbad hh HG
        obtain ⟨D, hD⟩ : ∃ D, D = vdV c.toNat := ⟨_, rfl⟩
        rw [← hD] at HBAD hdv hdw NX
        clear hD
        generalize bits .or .u8 (c.toNat : Int) 32 = Z at HBAD hlo hhi LOW hdv h95
        generalize c.toNat = n at HBAD hlo hhi LOW hdv hdw h95 hc hc256
        have hn0 : (0 : Int) ≤ (n : Int) := by omega
        have hn1 : (n : Int) < 256 := by omega
        have ha0 : (0 : Int) ≤ z := by omega
        have HZA := Lib.hid hza
        by_cases hdig : 48 ≤ n ∧ n ≤ 57
        · have hDn := hdw hdig
          have q1 : (48 : Int) ≤ (n : Int) := by omega
          have q2 : (n : Int) ≤ 57 := by omega
          have q3 : ((n : Int) == 95) = false := by simp; omega
          obtain ⟨dz, hdz⟩ : ∃ dz : Int, dz = (D : Int) := ⟨_, rfl⟩
          obtain ⟨nz, hnz⟩ : ∃ nz : Int, nz = ((a * 16 + D : Nat) : Int) := ⟨_, rfl⟩
          have w0 : (n : Int) - 48 = dz := by omega
          have w2 : IntKind.u64.wrap (z * 16) = z * 16 := by rw [IntKind.wrap_u64]; omega
          have w3 : IntKind.u64.wrap (z * 16 + dz) = nz := by rw [IntKind.wrap_u64]; omega
          have w4 : z * 16 + dz = nz := by omega
          have q4 : dz < 16 := by omega
          have q5 : (0 : Int) ≤ dz := by omega
          have q6 : ¬ nz < z * 16 := by omega
          have q7 : nz ≤ 18446744073709551615 := by omega
          have q8 : ¬ (18446744073709551615 : Int) < nz := by omega
          have NX2 := Lib.hid (NX.out (by omega))
          have HNZ := Lib.hid hnz
          clear NX hdv hdw h95 HBAD hDn hlo hhi LOW hdig hza ha16 hdz hnz HH
          go_wp2
          go_roundw
          case rel => exact ⟨k + 1, a * 16 + D, nz, rfl, rfl, by go_num, trivial, by omega, Lib.hid ⟨HNZ.out, NX2.out⟩⟩
          case measure => simp [intOf]; omega
        · have hDn := hdv hdig
          have hdg : ¬ (48 : Int) ≤ (n : Int) ∨ ¬ (n : Int) ≤ 57 := by omega
          by_cases hlet : 97 ≤ Z ∧ Z ≤ 122
          · have q3 : ((n : Int) == 95) = false := by
              have : n ≠ 95 := fun e => by have := h95 e; omega
              simp; omega
            obtain ⟨l1, l2⟩ := hlet
            obtain ⟨dz, hdz⟩ : ∃ dz : Int, dz = (D : Int) := ⟨_, rfl⟩
            have w0 : Z - 97 + 10 = dz := by omega
            have w1 : IntKind.u8.wrap (Z - 97) = Z - 97 := by rw [IntKind.wrap_u8]; omega
            have w2 : IntKind.u8.wrap (Z - 97 + 10) = dz := by rw [IntKind.wrap_u8]; omega
            have w4 : IntKind.u8.wrap dz = dz := by rw [IntKind.wrap_u8]; omega
            have q5 : (0 : Int) ≤ dz := by omega
            have q6 : dz ≤ 35 := by omega
            by_cases hd16 : D < 16
            · obtain ⟨nz, hnz⟩ : ∃ nz : Int, nz = ((a * 16 + D : Nat) : Int) := ⟨_, rfl⟩
              have w5 : IntKind.u64.wrap (z * 16) = z * 16 := by rw [IntKind.wrap_u64]; omega
              have w6 : IntKind.u64.wrap (z * 16 + dz) = nz := by rw [IntKind.wrap_u64]; omega
              have w7 : z * 16 + dz = nz := by omega
              have q4 : dz < 16 := by omega
              have q7 : ¬ nz < z * 16 := by omega
              have q8 : nz ≤ 18446744073709551615 := by omega
              have q9 : ¬ (18446744073709551615 : Int) < nz := by omega
              have NX2 := Lib.hid (NX.out (by omega))
              have HNZ := Lib.hid hnz
              clear NX hdv hdw h95 HBAD hDn hza ha16 hdz hnz HH hd16 hdig
              rcases hdg with q1 | q1
              · go_wp2_with (go_at_call 64; (with_reducible refine (LOW.out _).mono ?_); rintro e w1 ⟨rfl, rfl⟩)
                go_roundw
                case rel => exact ⟨k + 1, a * 16 + D, nz, rfl, rfl, by go_num, trivial, by omega, Lib.hid ⟨HNZ.out, NX2.out⟩⟩
                case measure => simp [intOf]; omega
              · have q0 : (48 : Int) ≤ (n : Int) := by omega
                go_wp2_with (go_at_call 64; (with_reducible refine (LOW.out _).mono ?_); rintro e w1 ⟨rfl, rfl⟩)
                go_roundw
                case rel => exact ⟨k + 1, a * 16 + D, nz, rfl, rfl, by go_num, trivial, by omega, Lib.hid ⟨HNZ.out, NX2.out⟩⟩
                case measure => simp [intOf]; omega
            · have q4 : ¬ dz < 16 := by omega
              have HB2 := Lib.hid (HBAD.out (fun h => hd16 h.2))
              clear NX hdv hdw h95 HBAD hDn hza ha16 hdz HH hd16 hdig
              rcases hdg with q1 | q1
              · go_wp2_with (go_at_call 64; (with_reducible refine (LOW.out _).mono ?_); rintro e w1 ⟨rfl, rfl⟩)
                go_ret2
                exact ⟨0, _, rfl, by decide, .inr rfl, (fun u hu _ => absurd hu (HB2.out u)), hbl⟩
              · have q0 : (48 : Int) ≤ (n : Int) := by omega
                go_wp2_with (go_at_call 64; (with_reducible refine (LOW.out _).mono ?_); rintro e w1 ⟨rfl, rfl⟩)
                go_ret2
                exact ⟨0, _, rfl, by decide, .inr rfl, (fun u hu _ => absurd hu (HB2.out u)), hbl⟩
          · have HB2 := Lib.hid (HBAD.out (fun h => h.1.elim hdig (fun h => hlet h.2)))
            clear NX hdv hdw h95 HBAD hDn hza ha16 HH hdig
            have hlt : ¬ 97 ≤ Z ∨ ¬ Z ≤ 122 := by omega
            rcases hlt with l1 | l1
            · rcases hdg with q1 | q1
              · by_cases h95 : n = 95
                · omega
                · have q3 : ((n : Int) == 95) = false := by simp; omega
                  go_wp2_with (go_at_call 64; (with_reducible refine (LOW.out _).mono ?_); rintro e w1 ⟨rfl, rfl⟩)
                  go_ret2
                  exact ⟨0, _, rfl, by decide, .inr rfl, (fun u hu _ => absurd hu (HB2.out u)), hbl⟩
              · have q0 : (48 : Int) ≤ (n : Int) := by omega
                by_cases h95 : n = 95
                · subst h95
                  have L2 : Hid (∀ wx : World, Calls Tryd.prog 64 #[.int .u8 95] wx fun e w' => e = .returned (.int .u8 Z) ∧ wx = w') := LOW
                  go_wp2_with (go_at_call 64; (with_reducible refine (L2.out _).mono ?_); rintro e w1 ⟨rfl, rfl⟩)
                  go_ret2
                  exact ⟨0, _, rfl, by decide, .inr rfl, (fun u hu _ => absurd hu (HB2.out u)), hbl⟩
                · have q3 : ((n : Int) == 95) = false := by simp; omega
                  go_wp2_with (go_at_call 64; (with_reducible refine (LOW.out _).mono ?_); rintro e w1 ⟨rfl, rfl⟩)
                  go_ret2
                  exact ⟨0, _, rfl, by decide, .inr rfl, (fun u hu _ => absurd hu (HB2.out u)), hbl⟩
            · rcases hdg with q1 | q1
              · have q3 : ((n : Int) == 95) = false := by simp; omega
                have l2 : 97 ≤ Z := by omega
                go_wp2_with (go_at_call 64; (with_reducible refine (LOW.out _).mono ?_); rintro e w1 ⟨rfl, rfl⟩)
                go_ret2
                exact ⟨0, _, rfl, by decide, .inr rfl, (fun u hu _ => absurd hu (HB2.out u)), hbl⟩
              · have q0 : (48 : Int) ≤ (n : Int) := by omega
                have l2 : 97 ≤ Z := by omega
                by_cases h95 : n = 95
                · subst h95
                  have L2 : Hid (∀ wx : World, Calls Tryd.prog 64 #[.int .u8 95] wx fun e w' => e = .returned (.int .u8 Z) ∧ wx = w') := LOW
                  go_wp2_with (go_at_call 64; (with_reducible refine (L2.out _).mono ?_); rintro e w1 ⟨rfl, rfl⟩)
                  go_ret2
                  exact ⟨0, _, rfl, by decide, .inr rfl, (fun u hu _ => absurd hu (HB2.out u)), hbl⟩
                · have q3 : ((n : Int) == 95) = false := by simp; omega
                  go_wp2_with (go_at_call 64; (with_reducible refine (LOW.out _).mono ?_); rintro e w1 ⟨rfl, rfl⟩)
                  go_ret2
                  exact ⟨0, _, rfl, by decide, .inr rfl, (fun u hu _ => absurd hu (HB2.out u)), hbl⟩
      · have hkk : k = s.size := by omega
        subst hkk
        have HF : Hid (a < 16777216 ∧ ∀ u, vhN s.data.toList = some u → a = u) := by
          refine Lib.hid ⟨?_, fun u hu => ?_⟩
          · have h1 := hh.out.1
            have h2 : 16 ^ s.size ≤ 16 ^ 6 := Nat.pow_le_pow_right (by decide) hs
            have h3 : 16 ^ 6 = 16777216 := by decide
            omega
          · rw [← HL.out] at hu
            rw [hh.out.2, (vhN_inv hu).2, List.take_of_length_le (by omega)]
        subst hza
        clear hh
        go_wp2
        go_ret2
        exact ⟨a, _, rfl, HF.out.1, .inl rfl, fun u hu _ => ⟨HF.out.2 u hu, rfl⟩, hbl⟩
/-- A whole number is read, or there is an error of syntax. -/
def ViPost (s : ByteArray) (w : World) (e : Ending) (w' : World) : Prop := ∃ (v : Int) (ev : Value), e = .returned (.tuple #[.int .i64 v, ev]) ∧ (-16777216 < v ∧ v < 16777216) ∧ (ev = .nilIface ∨ ev = .iface 90 (.int .i64 2)) ∧ (∀ u, vhN s.data.toList = some u → 0 < s.size → v = u ∧ ev = .nilIface) ∧ Below w.heap.size w w'
theorem vhN_first {s : ByteArray} (h : 0 < s.size) {u : Nat} (hu : vhN s.data.toList = some u) : s[0].toNat ≠ 43 ∧ s[0].toNat ≠ 45 := by
  have hm : s[0] ∈ s.data.toList := by
    have := Lib.data_getElem? s 0 h
    exact List.mem_of_getElem? this
  obtain ⟨x, hx⟩ := (vhN_inv hu).1 _ hm
  constructor
  · intro e
    have : s[0] = 43 := UInt8.toNat_inj.1 e
    rw [this] at hx; cases hx
  · intro e
    have : s[0] = 45 := UInt8.toNat_inj.1 e
    rw [this] at hx; cases hx
theorem verr_neq (w : World) : (binOp .neq 62 (.iface 90 (.int .i64 2)) (.iface 90 (.int .i64 1))).run Tryd.prog w = .ok (.bool true) w := by kernel_rfl
set_option maxHeartbeats 3200000 in
set_option maxRecDepth 100000 in
theorem vipi_any (s : ByteArray) (w : World) (hs : s.size ≤ 6) : Calls Tryd.prog 41 #[.string s, .int .i64 16, .int .i64 64] w (ViPost s w) := by
  by_cases hne : s.size = 0
  · have hnil : s.data.toList = [] := List.length_eq_zero_iff.1 (by rw [← Lib.size_eq]; exact hne)
    have hemp : s.toList.isEmpty = true := by rw [Lib.toList_data, hnil]; rfl
    go_enter Tryd.func41, Tryd.ntmps41
    go_wp2
    go_ret2
    exact ⟨0, _, rfl, by decide, .inr rfl, (fun u hu h0 => by omega), Below.refl _ _⟩
  · have hemp : s.toList.isEmpty = false := by
      rw [Lib.toList_data]
      cases h : s.data.toList with
      | nil => have := Lib.size_eq s; rw [h, List.length_nil] at this; omega
      | cons _ _ => rfl
    have h0 : 0 < s.size := by omega
    have PU : Hid (∀ (t : ByteArray) (wx : World), t.size ≤ 6 → Calls Tryd.prog 52 #[.string t, .int .i64 16, .int .i64 64] wx (VnPost t wx)) := Lib.hid (fun t wx h => vipu_any t wx h)
    have HF := Lib.hid (fun u (hu : vhN s.data.toList = some u) => vhN_first h0 hu)
    have hx : (s.extract 1 s.size).size ≤ 6 := by rw [ByteArray.size_extract]; omega
    have hc255 : s[0].toNat < 256 := s[0].toNat_lt
    obtain ⟨n, hn⟩ : ∃ n, n = s[0].toNat := ⟨_, rfl⟩
    rw [← hn] at hc255
    go_enter Tryd.func41, Tryd.ntmps41
    go_upto_region 5 with fail
    have HX : Hid (∀ u, vhN s.data.toList = some u → n ≠ 43 ∧ n ≠ 45) := Lib.hid (fun u hu => by rw [hn]; exact HF.out u hu)
    rw [← hn]
    have hh1 : (1 : Int) ≤ (s.size : Int) := by omega
    have hen := fun wx => verr_neq wx
    clear hn HF hne hemp
    by_cases h43 : n = 43
    · subst h43
      go_upto_region 12 with (go_at_call 52; (with_reducible refine (PU.out _ _ hx).mono ?_); rintro e w1 ⟨v, ev, rfl, hv, hev, hh, hb⟩)
      have hv0 : ¬ (9223372036854775808 : Int) ≤ (v : Int) := by omega
      have HV := Lib.hid hv
      clear PU hh hv
      rcases hev with rfl | rfl
      · go_wp2
        go_ret2
        exact ⟨v, _, rfl, by have := HV.out; omega, .inl rfl, (fun u hu => absurd rfl (HX.out u hu).1), hb⟩
      · go_wp2
        go_ret2
        exact ⟨0, _, rfl, by decide, .inr rfl, (fun u hu => absurd rfl (HX.out u hu).1), hb⟩
    · by_cases h45 : n = 45
      · subst h45
        go_upto_region 12 with (go_at_call 52; (with_reducible refine (PU.out _ _ hx).mono ?_); rintro e w1 ⟨v, ev, rfl, hv, hev, hh, hb⟩)
        have hv0 : ¬ (9223372036854775808 : Int) < (v : Int) := by omega
        have HV := Lib.hid hv
        clear PU hh hv
        rcases hev with rfl | rfl
        · go_wp2
          go_ret2
          exact ⟨wrap64 (-wrap64 (v : Int)), _, rfl, by have := HV.out; unfold wrap64; omega, .inl rfl, (fun u hu => absurd rfl (HX.out u hu).2), hb⟩
        · go_wp2
          go_ret2
          exact ⟨0, _, rfl, by decide, .inr rfl, (fun u hu => absurd rfl (HX.out u hu).2), hb⟩
      · have q1 : ((n : Int) == 43) = false := by simp; omega
        have q2 : ((n : Int) == 45) = false := by simp; omega
        clear h43 h45
        go_upto_region 12 with (go_at_call 52; (with_reducible refine (PU.out _ _ hs).mono ?_); rintro e w1 ⟨v, ev, rfl, hv, hev, hh, hb⟩)
        have hv0 : ¬ (9223372036854775808 : Int) ≤ (v : Int) := by omega
        have HV := Lib.hid hv
        have HH := Lib.hid hh
        clear PU hh hv
        rcases hev with rfl | rfl
        · go_wp2
          go_ret2
          exact ⟨v, _, rfl, by have := HV.out; omega, .inl rfl, (fun u hu h0 => ⟨by have := (HH.out u hu h0).1; omega, rfl⟩), hb⟩
        · go_wp2
          go_ret2
          exact ⟨0, _, rfl, by decide, .inr rfl, (fun u hu h0 => by have := (HH.out u hu h0).2; cases this), hb⟩
def VjPost (s : ByteArray) (w : World) (e : Ending) (w' : World) : Prop := ∃ (v : Int) (ev : Value), e = .returned (.tuple #[.int .i64 v, ev]) ∧ (-16777216 < v ∧ v < 16777216) ∧ (ev = .nilIface ∨ ∃ t p, ev = .iface t p) ∧ (∀ u, vhN s.data.toList = some u → 0 < s.size → v = u ∧ ev = .nilIface) ∧ Below w.heap.size w w'
set_option maxHeartbeats 1000000 in
set_option maxRecDepth 100000 in
theorem vpi_any (s : ByteArray) (w : World) (hs : s.size ≤ 6) (hE : VErr w) : Calls Tryd.prog 33 #[.string s, .int .i64 16, .int .i64 64] w (VjPost s w) := by
  have I := Lib.hid (vipi_any s w hs)
  have HE := Lib.hid hE
  clear hE
  go_enter Tryd.func33, Tryd.ntmps33
  go_upto_region 2 with (go_at_call 41; (with_reducible refine (I.out).mono ?_); rintro e w1 ⟨v, ev, rfl, hv, hev, hh, hb⟩)
  have HV := Lib.hid (And.intro hv hh)
  clear hv hh I
  rcases hev with rfl | rfl
  · go_wp2
    go_ret2
    exact ⟨v, _, rfl, HV.out.1, .inl rfl, (fun u hu h0 => ⟨(HV.out.2 u hu h0).1, rfl⟩), hb⟩
  · obtain ⟨t, p, h1⟩ := HE.out.below hb
    have T : Hid (Calls Tryd.prog 42 #[.string ⟨#[80, 97, 114, 115, 101, 73, 110, 116]⟩, .string s, .int .i64 16, .int .i64 64, .iface 90 (.int .i64 2)] w1 fun e w' => (∃ t p, e = .returned (.iface t p)) ∧ Below w1.heap.size w1 w') := (Any.strconv_toError_syntax vlays245 ⟨#[80, 97, 114, 115, 101, 73, 110, 116]⟩ s 16 64 _ w1 (by omega) h1 (.inr ⟨t, p, rfl⟩)).mono fun e w' ⟨N, h, _, _, hb⟩ => ⟨⟨_, _, h⟩, hb⟩
    clear h1
    go_wp2_with (go_at_call 42; (with_reducible refine (T.out).mono ?_); rintro e w2 ⟨⟨t2, p2, rfl⟩, hb2⟩)
    go_ret2
    exact ⟨v, _, rfl, HV.out.1, .inr ⟨_, _, rfl⟩, (fun u hu h0 => by have := (HV.out.2 u hu h0).2; cases this), hb.trans (hb2.mono hb.size)⟩
/-- Some number; the right one, if it is one. -/
def HnPost (s : ByteArray) (w : World) (e : Ending) (w' : World) : Prop := ∃ v : Int, e = .returned (.int .i64 v) ∧ (-16777216 < v ∧ v < 16777216) ∧ (∀ u, vhN s.data.toList = some u → 0 < s.size → v = u) ∧ Below w.heap.size w w'
set_option maxHeartbeats 1000000 in
set_option maxRecDepth 100000 in
theorem hnum_any (s : ByteArray) (w : World) (hs : s.size ≤ 6) (hE : VErr w) : Calls Tryd.prog 28 #[.string s] w (HnPost s w) := by
  have I := Lib.hid (vpi_any s w hs hE)
  clear hE
  go_enter Tryd.func28, Tryd.ntmps28
  go_upto_region 2 with (go_at_call 33; (with_reducible refine (I.out).mono ?_); rintro e w1 ⟨v, ev, rfl, hv, hev, hh, hb⟩)
  have HV := Lib.hid (And.intro hv hh)
  clear hv hh I
  rcases hev with rfl | ⟨t, p, rfl⟩
  · go_wp2
    go_ret
    exact ⟨v, rfl, HV.out.1, fun u hu h0 => (HV.out.2 u hu h0).1, hb⟩
  · go_wp2
    go_ret
    exact ⟨0, rfl, by decide, fun u hu h0 => (by have := (HV.out.2 u hu h0).2; cases this), hb⟩
end Go.Proofs.YtmlmdidaldcoiaaDoor
