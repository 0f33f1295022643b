/- A strings.Builder with the frame that keeps rows above it; Public, Sign and Recover of both sides; the sanity check of the statements of onetime. -/
import Derived.Test.YtpophimnoakinaaDoorOdg
import Derived.Shelf.Strings.BuilderK
namespace Go.Proofs.YtpophimnoakinaaDoor
open Go.ChangeShapes Go.WideShapes Go.ChangeAt Go.RowKit
set_option linter.unusedVariables false
set_option linter.unusedSimpArgs false

/-- Block b is a strings.Builder that holds s; what it has lies from b on. -/
def Bls (w : World) (b : Nat) (s : ByteArray) : Prop := Lib.IsBuilderF 45 5 b b (Lib.byteCells s.data.toList) w
theorem Bls.lt {w : World} {b : Nat} {s : ByteArray} (h : Bls w b s) : b < w.heap.size := by
  rcases h with h | h <;> exact Lib.BuilderAtF.lt h
theorem Bls.go {w w' : World} {b : Nat} {s : ByteArray} (h : Bls w b s) (hb : Below w.heap.size w w') : Bls w' b s := by
  have hg : w.grownBy w' none := ⟨hb.os, hb.tape, hb.output, hb.size, fun i hi _ => hb.block i hi⟩
  have key : ∀ p, Lib.BuilderAtF 45 5 b b p (Lib.byteCells s.data.toList) w → Lib.BuilderAtF 45 5 b b p (Lib.byteCells s.data.toList) w' := by
    rintro p ⟨h1, v, h2, h3, h4⟩
    refine ⟨h1, v, (hb.block b (lt_of_block h2)).trans h2, h3.kept hg ?_, h4⟩
    cases e : v.ownBlock with
    | none => exact .inl rfl
    | some b => exact .inr (by simp)
  exact h.imp (key _) (key _)
theorem Bls.new (w : World) : Bls (w.alloc (.cells #[.pointer none, .slice none 0 0] 45)) w.heap.size ByteArray.empty :=
  .inl ⟨Nat.le_refl _, .slice none 0 0, by show (w.heap.push _)[w.heap.size]? = _; simp, World.ownsRowF_nil _ _ _ _, by simp [Value.ownBlock]⟩
theorem bls_write (b : Nat) (l s : ByteArray) (w : World) (h : Bls w b l) (hlen : l.size + s.size ≤ 140737488355328) : Calls Tryd.prog 36 #[.pointer (some ⟨b, 0, none⟩), .string s] w fun e w' => e = .returned (.tuple #[.int .i64 s.size, .nilIface]) ∧ Bls w' b (l ++ s) ∧ Below b w w' ∧ Lib.OthersKept 5 (some b) w w' := by
  refine (Any.Builder_WriteString_k lays166 bextra b b (Lib.byteCells l.data.toList) s w h (by simpa [Lib.byteCells] using hlen) (Nat.le_of_lt h.lt)).mono ?_
  rintro e w' ⟨rfl, h2, h3, h4⟩
  rw [Lib.strCells_eq, ← Lib.byteCells_append, ← Array.toList_append, ← ByteArray.data_append] at h2
  exact ⟨rfl, .inr h2, h3, h4⟩
theorem bls_string (b : Nat) (l : ByteArray) (w : World) (h : Bls w b l) : Calls Tryd.prog 40 #[.pointer (some ⟨b, 0, none⟩)] w fun e w' => e = .returned (.string l) ∧ Below b w w' := by
  refine (Any.Builder_String_any_k lays169 bextra b b l.data.toList w h (Nat.le_of_lt h.lt)).mono ?_
  rintro e w' ⟨rfl, h2, h3, h4⟩
  exact ⟨by congr 2, h3⟩
theorem Row.others {w w' : World} {g T cap e b : Nat} {xs : List Value} (h : Row w g T cap xs) (hk : Lib.OthersKept e (some b) w w') (hg : g ≠ b) (hT : T ≠ e) : Row w' g T cap xs := by
  obtain ⟨cur, fr, hh, r⟩ := h
  exact ⟨cur, fr, hk g _ hh (by simpa using hg) (fun c fz he => hT (by cases he; rfl)), r⟩

set_option maxHeartbeats 800000 in
set_option maxRecDepth 100000 in
theorem public_b (seed : ByteArray) (w : World) (hs : seed.size ≤ 999990) (hT : STab w) :
    Calls Tryd.prog 26 #[.string seed] w fun e w' => e = .returned (.string (pubB seed)) ∧ Below w.heap.size w w' := by
  have SC := Lib.hid (fun (wx : World) (c : Int) (h : STab wx) => secret_b seed c wx hs h)
  have WK := Lib.hid (fun (wx : World) (v : ByteArray) (c : Int) (hv : v.size = 16) (h : STab wx) => walk_b v c 0 3 3 wx (by decide) (by decide) (by decide) hv h)
  have SZ : Hid (∀ c, (secB seed c).size = 16) := Lib.hid fun c => stB_size _ _ _
  have WZ : Hid (∀ v c, v.size = 16 → (wkB v c 0 3).size = 16) := Lib.hid fun v c h => wkB_size _ _ _ _ h
  obtain ⟨G, hG⟩ : ∃ G : Nat → ByteArray, G = fun c : Nat => wkB (secB seed c) c 0 3 := ⟨_, rfl⟩
  have HGv : Hid (∀ j : Nat, wkB (secB seed j) j 0 3 = G j) := Lib.hid fun j => by rw [hG]
  have HGs : Hid (∀ j, (catB G j).size = 16 * j) := Lib.hid (catB_size G fun i => by rw [hG]; exact wkB_size _ _ _ _ (stB_size _ _ _))
  have HC : Hid (∀ j, catB G j ++ G j = catB G (j + 1)) := Lib.hid fun j => rfl
  have HP : Hid (pubB seed = shB (catB G 36)) := Lib.hid (by rw [hG]; rfl)
  have b0 := (Below.refl w.heap.size w).alloc (o := .cells #[.pointer none, .slice none 0 0] 45) (Nat.le_refl _)
  have n0 := Lib.hid (Bls.new w)
  have HT := Lib.hid hT
  clear hG hT
  go_enter Tryd.func26, Tryd.ntmps26
  go_wp2
  go_loopw [5] (fun i wr => ∃ j : Nat, ∃ q : ByteArray, j ≤ 36 ∧ i = .int .i64 j ∧ Hid (q = catB G j) ∧ Bls wr w.heap.size q ∧ Below w.heap.size w wr) (fun i _ => 36 - (intOf i).toNat)
  case atStart => exact ⟨0, _, Nat.zero_le _, rfl, Lib.hid rfl, n0.out, b0⟩
  case round =>
    clear b0 n0
    obtain ⟨j, q, hj, rfl, hq, hB, hb⟩ := hrel
    have hqs : q.size ≤ 1000 := by rw [hq.out, HGs.out]; omega
    have hbs := hb.size
    by_cases hlt : j < 36
    · have C1 := Lib.hid (SC.out wr j (stab_of HT.out hb (Nat.le_refl _)))
      have hss := SZ.out (j : Int)
      have hww := WZ.out _ (j : Int) hss
      obtain ⟨sv, hsv⟩ : ∃ sv, sv = secB seed j := ⟨_, rfl⟩
      rw [← hsv] at C1 hss hww
      have C2 := Lib.hid (fun (wx : World) (h : STab wx) => WK.out wx sv j hss h)
      have hgv := HGv.out j
      rw [← hsv] at hgv
      rw [hgv] at C2 hww
      have hcj := HC.out j
      obtain ⟨gv, hgv2⟩ : ∃ gv, gv = G j := ⟨_, rfl⟩
      rw [← hgv2] at C2 hww hcj
      have C3 := Lib.hid (fun (wx : World) (h : Bls wx w.heap.size q) => bls_write w.heap.size q gv wx h (by omega))
      have HQ : Hid (q ++ gv = catB G (j + 1)) := Lib.hid (by rw [hq.out]; exact hcj)
      clear hsv hgv hgv2 hcj hww hss
      go_wp2_with (first
        | (go_at_call 54; (with_reducible refine C1.out.mono ?_); rintro e w1 ⟨rfl, hb1⟩)
        | (go_at_call 53; (with_reducible refine (C2.out _ (stab_of HT.out (hb.trans (hb1.mono hb.size)) (Nat.le_refl _))).mono ?_); rintro e w2 ⟨rfl, hb2⟩)
        | (go_at_call 36; (with_reducible refine (C3.out _ ((hB.go hb1).go hb2)).mono ?_); rintro e w3 ⟨rfl, hB3, hb3, -⟩))
      go_roundw
      case rel => exact ⟨j + 1, q ++ gv, by omega, by go_num, HQ, hB3, ((hb.trans (hb1.mono hb.size)).trans (hb2.mono (Nat.le_trans hb.size hb1.size))).trans hb3⟩
      case measure => simp [intOf]; omega
    · obtain rfl : j = 36 := by omega
      have C4 := Lib.hid (bls_string w.heap.size q wr hB)
      have C5 := Lib.hid (fun (wx : World) (h : STab wx) => short_b q wx (by omega) h)
      have HP2 : Hid (pubB seed = shB q) := Lib.hid (by rw [hq.out]; exact HP.out)
      go_wp2_with (first
        | (go_at_call 40; (with_reducible refine C4.out.mono ?_); rintro e w1 ⟨rfl, hb1⟩)
        | (go_at_call 52; (with_reducible refine (C5.out _ (stab_of HT.out (hb.trans hb1) (Nat.le_refl _))).mono ?_); rintro e w2 ⟨rfl, hb2⟩))
      go_ret
      exact ⟨by rw [HP2.out]; rfl, (hb.trans hb1).trans (hb2.mono (Nat.le_trans hb.size hb1.size))⟩
set_option maxHeartbeats 800000 in
set_option maxRecDepth 100000 in
theorem sign_b (seed m : ByteArray) (w : World) (hs : seed.size ≤ 999990) (hm : m.size ≤ 999990) (hT : STab w) :
    Calls Tryd.prog 37 #[.string seed, .string m] w fun e w' => e = .returned (.string (signB seed m)) ∧ Below w.heap.size w w' := by
  have SC := Lib.hid (fun (wx : World) (c : Int) (h : STab wx) => secret_b seed c wx hs h)
  have WK := Lib.hid (fun (wx : World) (v : ByteArray) (c : Int) (d : Nat) (hd : d ≤ 3) (hv : v.size = 16) (h : STab wx) => walk_b v c 0 d d wx (by omega) (by decide) (by omega) hv h)
  have SZ : Hid (∀ c, (secB seed c).size = 16) := Lib.hid fun c => stB_size _ _ _
  have WZ : Hid (∀ v c d, v.size = 16 → (wkB v c 0 d).size = 16) := Lib.hid fun v c d h => wkB_size _ _ _ _ h
  have DG := Lib.hid (fun (wx : World) (h : STab wx) => digits_any m wx hm h)
  have HP : Hid (signB seed m = catB (fun c : Nat => wkB (secB seed c) c 0 (dgs (h8 m) c)) 36) := Lib.hid rfl
  obtain ⟨H, hH⟩ : ∃ H, H = h8 m := ⟨_, rfl⟩
  rw [← hH] at DG HP
  clear hH
  obtain ⟨G, hG⟩ : ∃ G : Nat → ByteArray, G = fun c : Nat => wkB (secB seed c) c 0 (dgs H c) := ⟨_, rfl⟩
  rw [← hG] at HP
  have HGv : Hid (∀ j : Nat, wkB (secB seed j) j 0 (dgs H j) = G j) := Lib.hid fun j => by rw [hG]
  have HGs : Hid (∀ j, (catB G j).size = 16 * j) := Lib.hid (catB_size G fun i => by rw [hG]; exact wkB_size _ _ _ _ (stB_size _ _ _))
  have HC : Hid (∀ j, catB G j ++ G j = catB G (j + 1)) := Lib.hid fun j => rfl
  have b0 := (Below.refl w.heap.size w).alloc (o := .cells #[.pointer none, .slice none 0 0] 45) (Nat.le_refl _)
  have n0 := Lib.hid (Bls.new w)
  have DG0 := Lib.hid (DG.out _ (hT.below b0))
  have HT := Lib.hid hT
  clear hG hT
  go_enter Tryd.func37, Tryd.ntmps37
  go_wp2_with (go_at_call 62; (with_reducible refine DG0.out.mono ?_); rintro e w1 ⟨v1, rfl, hO1, hb1⟩; obtain ⟨g, cap, rfl, hgB, hc36, hcm, hrow⟩ := own_some hO1 (by decide); clear hO1)
  have hgb : g ≠ w.heap.size := by have : (w.alloc (.cells #[.pointer none, .slice none 0 0] 45)).heap.size = w.heap.size + 1 := by simp
                                   omega
  have hB1 := Bls.go n0.out hb1
  have b1 := b0.trans (hb1.mono b0.size)
  unfold maxLen at hcm
  clear b0 n0 hb1 hgB
  go_loopw [11] (fun i wr => ∃ j : Nat, ∃ q : ByteArray, j ≤ 36 ∧ i = .int .i64 j ∧ Hid (q = catB G j) ∧ Bls wr w.heap.size q ∧ Row wr g 3 cap (digL H 36) ∧ Below w.heap.size w wr) (fun i _ => 36 - (intOf i).toNat)
  case atStart => exact ⟨0, _, Nat.zero_le _, rfl, Lib.hid rfl, hB1, hrow, b1⟩
  case round =>
    clear b1 hB1 hrow
    obtain ⟨j, q, hj, rfl, hq, hB, hrow, hb⟩ := hrel
    have hqs : q.size ≤ 1000 := by rw [hq.out, HGs.out]; omega
    have hbs := hb.size
    by_cases hlt : j < 36
    · have hcell := hrow.cellAt (digL_get H 36 j hlt)
      have hdl := dgs_le H j
      have C1 := Lib.hid (SC.out wr j (stab_of HT.out hb (Nat.le_refl _)))
      have hss := SZ.out (j : Int)
      have hww := WZ.out _ (j : Int) (dgs H j) hss
      obtain ⟨sv, hsv⟩ : ∃ sv, sv = secB seed j := ⟨_, rfl⟩
      rw [← hsv] at C1 hss hww
      have hgv := HGv.out j
      rw [← hsv] at hgv
      have C2 := Lib.hid (fun (wx : World) (h : STab wx) => WK.out wx sv j (dgs H j) hdl hss h)
      rw [hgv] at C2 hww
      have hcj := HC.out j
      obtain ⟨gv, hgv2⟩ : ∃ gv, gv = G j := ⟨_, rfl⟩
      rw [← hgv2] at C2 hww hcj
      obtain ⟨d, hd⟩ : ∃ d, d = dgs H j := ⟨_, rfl⟩
      rw [← hd] at C2 hcell hdl
      have C3 := Lib.hid (fun (wx : World) (h : Bls wx w.heap.size q) => bls_write w.heap.size q gv wx h (by omega))
      have HQ : Hid (q ++ gv = catB G (j + 1)) := Lib.hid (by rw [hq.out]; exact hcj)
      clear hsv hgv hgv2 hcj hww hss hd
      go_wp2_with (first
        | (go_at_call 54; (with_reducible refine C1.out.mono ?_); rintro e w1 ⟨rfl, hb1⟩)
        | (go_at_call 53; (with_reducible refine (C2.out _ (stab_of HT.out (hb.trans (hb1.mono hb.size)) (Nat.le_refl _))).mono ?_); rintro e w2 ⟨rfl, hb2⟩)
        | (go_at_call 36; (with_reducible refine (C3.out _ ((hB.go hb1).go hb2)).mono ?_); rintro e w3 ⟨rfl, hB3, hb3, hk3⟩))
      have hrow3 := (((hrow.below hb1 hrow.lt).below hb2 (Nat.lt_of_lt_of_le hrow.lt hb1.size))).others hk3 hgb (by decide)
      go_roundw
      case rel => exact ⟨j + 1, q ++ gv, by omega, by go_num, HQ, hB3, hrow3, ((hb.trans (hb1.mono hb.size)).trans (hb2.mono (Nat.le_trans hb.size hb1.size))).trans hb3⟩
      case measure => simp [intOf]; omega
    · obtain rfl : j = 36 := by omega
      have C4 := Lib.hid (bls_string w.heap.size q wr hB)
      have HP2 : Hid (signB seed m = q) := Lib.hid (by rw [hq.out]; exact HP.out)
      go_wp2_with (go_at_call 40; (with_reducible refine C4.out.mono ?_); rintro e w1 ⟨rfl, hb1⟩)
      go_ret
      exact ⟨by rw [HP2.out]; rfl, hb.trans hb1⟩
set_option maxHeartbeats 800000 in
set_option maxRecDepth 100000 in
theorem rsign_b (seed m : ByteArray) (w : World) (hs : seed.size ≤ 999990) (hm : m.size ≤ 999990) :
    Calls Tryd.prog 41 #[.string seed, .string m] w fun e w' => e = .returned (.string (signB seed m)) ∧ Below w.heap.size w w' := by
  have SC := Lib.hid (fun (wx : World) (c : Int) => rsecret_b seed c wx hs)
  have WK := Lib.hid (fun (wx : World) (v : ByteArray) (c : Int) (d : Nat) (hd : d ≤ 3) (hv : v.size = 16) => rwalk_b v c 0 d d wx (by omega) (by decide) (by omega) hv)
  have SZ : Hid (∀ c, (secB seed c).size = 16) := Lib.hid fun c => stB_size _ _ _
  have WZ : Hid (∀ v c d, v.size = 16 → (wkB v c 0 d).size = 16) := Lib.hid fun v c d h => wkB_size _ _ _ _ h
  have DG := Lib.hid (rdigits_any m w hm)
  have HP : Hid (signB seed m = catB (fun c : Nat => wkB (secB seed c) c 0 (dgs (h8 m) c)) 36) := Lib.hid rfl
  obtain ⟨H, hH⟩ : ∃ H, H = h8 m := ⟨_, rfl⟩
  rw [← hH] at DG HP
  clear hH
  obtain ⟨G, hG⟩ : ∃ G : Nat → ByteArray, G = fun c : Nat => wkB (secB seed c) c 0 (dgs H c) := ⟨_, rfl⟩
  rw [← hG] at HP
  have HGv : Hid (∀ j : Nat, wkB (secB seed j) j 0 (dgs H j) = G j) := Lib.hid fun j => by rw [hG]
  have HGs : Hid (∀ j, (catB G j).size = 16 * j) := Lib.hid (catB_size G fun i => by rw [hG]; exact wkB_size _ _ _ _ (stB_size _ _ _))
  have HC : Hid (∀ j, catB G j ++ G j = catB G (j + 1)) := Lib.hid fun j => rfl
  clear hG
  go_enter Tryd.func41, Tryd.ntmps41
  go_wp2_with (go_at_call 63; (with_reducible refine DG.out.mono ?_); rintro e w1 ⟨v1, rfl, hO1, b1⟩; obtain ⟨g, cap, rfl, hgB, hc36, hcm, hrow⟩ := own_some hO1 (by decide); clear hO1)
  unfold maxLen at hcm
  go_loopw [5, 11] (fun x i wr => ∃ j : Nat, ∃ q : ByteArray, j ≤ 36 ∧ i = .int .i64 j ∧ x = .string q ∧ Hid (q = catB G j) ∧ Row wr g 3 cap (digL H 36) ∧ Below w.heap.size w wr) (fun _ i _ => 36 - (intOf i).toNat)
  case atStart => exact ⟨0, _, Nat.zero_le _, rfl, rfl, Lib.hid rfl, hrow, b1⟩
  case round =>
    clear b1 hrow
    obtain ⟨j, q, hj, rfl, rfl, hq, hrow, hb⟩ := hrel
    have hqs : q.size ≤ 1000 := by rw [hq.out, HGs.out]; omega
    have hbs := hb.size
    by_cases hlt : j < 36
    · have hcell := hrow.cellAt (digL_get H 36 j hlt)
      have hdl := dgs_le H j
      have C1 := Lib.hid (SC.out wr j)
      have hss := SZ.out (j : Int)
      have hww := WZ.out _ (j : Int) (dgs H j) hss
      obtain ⟨sv, hsv⟩ : ∃ sv, sv = secB seed j := ⟨_, rfl⟩
      rw [← hsv] at C1 hss hww
      have hgv := HGv.out j
      rw [← hsv] at hgv
      have C2 := Lib.hid (fun (wx : World) => WK.out wx sv j (dgs H j) hdl hss)
      rw [hgv] at C2 hww
      have hcj := HC.out j
      obtain ⟨gv, hgv2⟩ : ∃ gv, gv = G j := ⟨_, rfl⟩
      rw [← hgv2] at C2 hww hcj
      obtain ⟨d, hd⟩ : ∃ d, d = dgs H j := ⟨_, rfl⟩
      rw [← hd] at C2 hcell hdl
      have hgs : gv.size ≤ 16 := by omega
      obtain ⟨q2, hq2⟩ : ∃ q2, q ++ gv = q2 := ⟨_, rfl⟩
      have hq2s : q2.size ≤ 2000 := by rw [← hq2, ByteArray.size_append]; omega
      have HQ : Hid (q2 = catB G (j + 1)) := Lib.hid (by rw [← hq2, hq.out]; exact hcj)
      clear hsv hgv hgv2 hcj hww hss hd
      go_wp2_with (first
        | (go_at_call 57; (with_reducible refine C1.out.mono ?_); rintro e w1 ⟨rfl, hb1⟩)
        | (go_at_call 56; (with_reducible refine (C2.out _).mono ?_); rintro e w2 ⟨rfl, hb2⟩))
      have hrow3 := ((hrow.below hb1 hrow.lt).below hb2 (Nat.lt_of_lt_of_le hrow.lt hb1.size))
      go_roundw
      case rel => exact ⟨j + 1, q2, by omega, by go_num, rfl, HQ, hrow3, (hb.trans (hb1.mono hb.size)).trans (hb2.mono (Nat.le_trans hb.size hb1.size))⟩
      case measure => simp [intOf]; omega
    · obtain rfl : j = 36 := by omega
      have HP2 : Hid (signB seed m = q) := Lib.hid (by rw [hq.out]; exact HP.out)
      go_wp2
      go_ret
      exact ⟨by rw [HP2.out]; rfl, hb⟩
set_option maxHeartbeats 800000 in
set_option maxRecDepth 100000 in
theorem rpublic_b (seed : ByteArray) (w : World) (hs : seed.size ≤ 999990) :
    Calls Tryd.prog 28 #[.string seed] w fun e w' => e = .returned (.string (pubB seed)) ∧ Below w.heap.size w w' := by
  have SC := Lib.hid (fun (wx : World) (c : Int) => rsecret_b seed c wx hs)
  have WK := Lib.hid (fun (wx : World) (v : ByteArray) (c : Int) (hv : v.size = 16) => rwalk_b v c 0 3 3 wx (by decide) (by decide) (by decide) hv)
  have SZ : Hid (∀ c, (secB seed c).size = 16) := Lib.hid fun c => stB_size _ _ _
  have WZ : Hid (∀ v c, v.size = 16 → (wkB v c 0 3).size = 16) := Lib.hid fun v c h => wkB_size _ _ _ _ h
  obtain ⟨G, hG⟩ : ∃ G : Nat → ByteArray, G = fun c : Nat => wkB (secB seed c) c 0 3 := ⟨_, rfl⟩
  have HGv : Hid (∀ j : Nat, wkB (secB seed j) j 0 3 = G j) := Lib.hid fun j => by rw [hG]
  have HGs : Hid (∀ j, (catB G j).size = 16 * j) := Lib.hid (catB_size G fun i => by rw [hG]; exact wkB_size _ _ _ _ (stB_size _ _ _))
  have HC : Hid (∀ j, catB G j ++ G j = catB G (j + 1)) := Lib.hid fun j => rfl
  have HP : Hid (pubB seed = shB (catB G 36)) := Lib.hid (by rw [hG]; rfl)
  clear hG
  go_enter Tryd.func28, Tryd.ntmps28
  go_wp2
  go_loopw [3, 5] (fun x i wr => ∃ j : Nat, ∃ q : ByteArray, j ≤ 36 ∧ i = .int .i64 j ∧ x = .string q ∧ Hid (q = catB G j) ∧ Below w.heap.size w wr) (fun _ i _ => 36 - (intOf i).toNat)
  case atStart => exact ⟨0, _, Nat.zero_le _, rfl, rfl, Lib.hid rfl, Below.refl _ _⟩
  case round =>
    obtain ⟨j, q, hj, rfl, rfl, hq, hb⟩ := hrel
    have hqs : q.size ≤ 1000 := by rw [hq.out, HGs.out]; omega
    have hbs := hb.size
    by_cases hlt : j < 36
    · have C1 := Lib.hid (SC.out wr j)
      have hss := SZ.out (j : Int)
      have hww := WZ.out _ (j : Int) hss
      obtain ⟨sv, hsv⟩ : ∃ sv, sv = secB seed j := ⟨_, rfl⟩
      rw [← hsv] at C1 hss hww
      have C2 := Lib.hid (fun (wx : World) => WK.out wx sv j hss)
      have hgv := HGv.out j
      rw [← hsv] at hgv
      rw [hgv] at C2 hww
      have hcj := HC.out j
      obtain ⟨gv, hgv2⟩ : ∃ gv, gv = G j := ⟨_, rfl⟩
      rw [← hgv2] at C2 hww hcj
      have hgs : gv.size ≤ 16 := by omega
      obtain ⟨q2, hq2⟩ : ∃ q2, q ++ gv = q2 := ⟨_, rfl⟩
      have hq2s : q2.size ≤ 2000 := by rw [← hq2, ByteArray.size_append]; omega
      have HQ : Hid (q2 = catB G (j + 1)) := Lib.hid (by rw [← hq2, hq.out]; exact hcj)
      clear hsv hgv hgv2 hcj hww hss
      go_wp2_with (first
        | (go_at_call 57; (with_reducible refine C1.out.mono ?_); rintro e w1 ⟨rfl, hb1⟩)
        | (go_at_call 56; (with_reducible refine (C2.out _).mono ?_); rintro e w2 ⟨rfl, hb2⟩))
      go_roundw
      case rel => exact ⟨j + 1, q2, by omega, by go_num, rfl, HQ, (hb.trans (hb1.mono hb.size)).trans (hb2.mono (Nat.le_trans hb.size hb1.size))⟩
      case measure => simp [intOf]; omega
    · obtain rfl : j = 36 := by omega
      have C5 := Lib.hid (fun (wx : World) => rshort_b q wx (by omega))
      have HP2 : Hid (pubB seed = shB q) := Lib.hid (by rw [hq.out]; exact HP.out)
      go_wp2_with (go_at_call 23; (with_reducible refine (C5.out _).mono ?_); rintro e w2 ⟨rfl, hb2⟩)
      go_ret
      exact ⟨by rw [HP2.out]; rfl, hb.trans (hb2.mono hb.size)⟩
end Go.Proofs.YtpophimnoakinaaDoor
