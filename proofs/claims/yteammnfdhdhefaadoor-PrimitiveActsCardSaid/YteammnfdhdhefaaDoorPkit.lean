/- The dice of the statements' inputs (Light, Roll, Next, Bytes, Primitive): what comes out of them is some number below the bound, some string of the length, some primitive; only their own block is written. And the sanity check of the statements of primitive. -/
import Derived.Test.YteammnfdhdhefaaDoorQenc
import Derived.Test.YteammnfdhdhefaaDoorAwake
import Derived.Test.YteammnfdhdhefaaDoorSpoil
import Derived.Deep.DeepCutAuto
namespace Go.Proofs.YteammnfdhdhefaaDoor
open Go.ChangeShapes Go.WideShapes Go.ChangeAt Go.RowKit
set_option linter.unusedVariables false
set_option linter.unusedSimpArgs false

/-- A slice of numbers below block B. -/
def NumsB (B : Nat) (w : World) (a : Option Addr) (len cap : Nat) (zs : List Int) : Prop :=
  len ≤ cap ∧ cap ≤ maxLen ∧ (∀ i, i < cap → ∃ b off, a = some ⟨b, off, none⟩ ∧ b < B ∧ w.cell? ⟨b, off + i, none⟩ = some (.int .i64 (zs.getD i 0))) ∧ ∀ i, -9223372036854775808 ≤ zs.getD i 0 ∧ zs.getD i 0 ≤ 9223372036854775807
theorem NumsB.of_row {w : World} {a : Option Addr} {len cap : Nat} {zs : List Int} (h : IsRow .i64 w a len cap zs) : NumsB w.heap.size w a len cap zs := by
  obtain ⟨h1, h2, h3, h4, h5⟩ := h
  refine ⟨h1, h2, h4, fun i => ?_⟩
  rcases Nat.lt_or_ge i zs.length with h | h
  · have hm : zs.getD i 0 ∈ zs := by rw [List.getD, List.getElem?_eq_getElem h]; exact List.getElem_mem h
    exact bounds_i64 (h5 _ hm)
  · rw [List.getD, List.getElem?_eq_none h]; decide
theorem NumsB.same {B : Nat} {w w' : World} {a : Option Addr} {len cap : Nat} {zs : List Int} (h : NumsB B w a len cap zs) (hb : ∀ j, j < B → w'.heap[j]? = w.heap[j]?) : NumsB B w' a len cap zs := by
  obtain ⟨h1, h2, h3, h4⟩ := h
  refine ⟨h1, h2, fun i hi => ?_, h4⟩
  obtain ⟨b, off, e, hbB, hc⟩ := h3 i hi
  refine ⟨b, off, e, hbB, ?_⟩
  rw [← hc]
  simp only [World.cell?, hb b hbB]

/-- Block g, from B on, holds dice over numbers below B. -/
def DiceAt (B : Nat) (w : World) (g : Nat) : Prop :=
  ∃ a len cap k zs, B ≤ g ∧ w.heap[g]? = some (.cells #[.slice a len cap, .int .i64 ((k : Nat) : Int)] 52 (0, 0)) ∧ k ≤ len ∧ NumsB B w a len cap zs
theorem DiceAt.lt {B g : Nat} {w : World} (h : DiceAt B w g) : g < w.heap.size := by
  obtain ⟨_, _, _, _, _, _, h, _⟩ := h
  exact lt_of_block h
theorem DiceAt.same {B g : Nat} {w w' : World} (h : DiceAt B w g) (hb : ∀ j, j ≤ g → w'.heap[j]? = w.heap[j]?) : DiceAt B w' g := by
  obtain ⟨a, len, cap, k, zs, hB, hh, hk, hn⟩ := h
  exact ⟨a, len, cap, k, zs, hB, (hb g (Nat.le_refl _)).trans hh, hk, hn.same fun j hj => hb j (by omega)⟩
theorem DiceAt.below {B g C : Nat} {w w' : World} (h : DiceAt B w g) (hg : g < C) (hb : Below C w w') : DiceAt B w' g := h.same fun j hj => hb.block j (by omega)
theorem DiceAt.go {B g : Nat} {w w' : World} (h : DiceAt B w g) (hb : Below w.heap.size w w') : DiceAt B w' g := h.below h.lt hb
theorem grown_of_below {w w' : World} {C : Nat} (hb : Below C w w') (hC : w.heap.size ≤ C) (row : Option Nat) : w.grownBy w' row :=
  ⟨hb.os, hb.tape, hb.output, hb.size, fun i hi _ => hb.block i (by omega)⟩
theorem keepG {w w' : World} {g h : Nat} {o : Obj} (hg : w.grownBy w' (some g)) (hne : h ≠ g) (hh : w.heap[h]? = some o) : w'.heap[h]? = some o :=
  (hg.block h (lt_of_block hh) (by intro e; cases e; exact hne rfl)).trans hh

set_option maxRecDepth 100000 in
theorem light_any (a : Option Addr) (len cap : Nat) (w : World) : Calls Tryd.prog 9 #[.slice a len cap] w fun e w' => e = .returned (.bool (decide ((len : Int) ≤ 500))) ∧ w = w' := by
  go_enter Tryd.func9, Tryd.ntmps9
  go_wp2
  go_ret
  exact ⟨rfl, rfl⟩
set_option maxRecDepth 100000 in
theorem roll_any (a : Option Addr) (len cap : Nat) (zs : List Int) (w : World) (h : NumsB w.heap.size w a len cap zs) : Calls Tryd.prog 11 #[.slice a len cap] w fun e w' => e = .returned (.pointer (some ⟨w.heap.size, 0, none⟩)) ∧ Below w.heap.size w w' ∧ DiceAt w.heap.size w' w.heap.size := by
  have HN := Lib.hid h
  clear h
  go_enter Tryd.func11, Tryd.ntmps11
  go_wp2
  go_ret
  refine ⟨rfl, (Below.refl _ _).alloc (Nat.le_refl _) _, a, len, cap, 0, zs, Nat.le_refl _, heap_alloc_new _ _, Nat.zero_le _, HN.out.same fun j hj => ?_⟩
  exact Below.heap_alloc _ _ j hj
theorem grown_set1 (w : World) (g : Nat) (v : Value) : w.grownBy (w.setCell ⟨g, 1, none⟩ v) (some g) :=
  ⟨rfl, rfl, rfl, by simp [World.setCell], fun i _ hne => heap_setCell_other w ⟨g, 1, none⟩ i v (fun e => hne (by rw [e]))⟩
theorem grown_drewN {a w : World} {row : Option Nat} (h : a.grownBy w row) (n : Nat) : a.grownBy (w.drewN n) row := ⟨h.os, h.tape, h.output, h.size, h.block⟩
set_option maxHeartbeats 800000 in
set_option maxRecDepth 100000 in
theorem next_any (B g : Nat) (n : Nat) (w : World) (h1 : 1 ≤ n) (hn : n < 2 ^ 62) (hd : DiceAt B w g) : Calls Tryd.prog 33 #[.pointer (some ⟨g, 0, none⟩), .int .i64 (n : Int)] w fun e w' => (∃ k : Nat, k < n ∧ e = .returned (.int .i64 (k : Int))) ∧ w.grownBy w' (some g) ∧ DiceAt B w' g := by
  obtain ⟨a, len, cap, k, zs, hB, hh, hk, hN⟩ := hd
  have hc := two_of hh
  have hf := free_two hh
  have hN' := hN
  obtain ⟨hlc, hcm, hcell, hbd⟩ := hN
  unfold maxLen at hcm
  by_cases hlt : k < len
  · obtain ⟨b, off, rfl, hbB, hcx⟩ := hcell k (by omega)
    obtain ⟨z, hz⟩ : ∃ z, z = zs.getD k 0 := ⟨_, rfl⟩
    have hzb := hbd k
    rw [← hz] at hcx hzb
    have M := Lib.hid (fun (wx : World) => mod_any z n wx h1 hn hzb.1 hzb.2)
    obtain ⟨m, hm⟩ : ∃ m : Nat, z % (n : Int) = (m : Int) := ⟨(z % (n : Int)).toNat, by have := Int.emod_nonneg z (b := (n : Int)) (by omega); omega⟩
    have hmn : m < n := by have := Int.emod_lt_of_pos z (b := (n : Int)) (by omega); omega
    rw [hm] at M
    have HN := Lib.hid hN'
    have HH := Lib.hid hh
    have hne : b ≠ g := by omega
    clear hN' hcell hbd hz hm hh
    go_enter Tryd.func33, Tryd.ntmps33
    have hkl : (k : Int) < (len : Int) := by omega
    have hkl2 : k < len := hlt
    go_wp2
    go_quiet (fail)
    go_wp2
    have hB1 := two_set1 (w := w.drewN nq) HH.out (.int .i64 ((k : Int) + 1))
    have hs1 := two_of hB1
    have hcx1 : ((w.drewN nq).setCell ⟨g, 1, none⟩ (.int .i64 ((k : Int) + 1))).cell? ⟨b, off + k, none⟩ = some (.int .i64 z) := by
      rw [← hcx]
      simp only [World.cell?, heap_setCell_other (w.drewN nq) ⟨g, 1, none⟩ b _ hne]
      rfl
    have ek : (k : Int) + 1 - 1 = (k : Int) := by omega
    have e1 : IntKind.i64.wrap ((k : Int) + 1 - 1) = (k : Int) := by rw [ek]; exact w64 _ (by omega)
    have gg := gtrans (grown_drewN (World.grownBy.refl w (some g)) nq) (grown_set1 (w.drewN nq) g (.int .i64 ((k : Int) + 1)))
    have hk0 : (0 : Int) ≤ (k : Int) := by omega
    have hd0 := hs1.1
    have hd1 := hs1.2
    have HB1 := Lib.hid hB1
    have HD := Lib.hid (HN.out.same (w' := (w.drewN nq).setCell ⟨g, 1, none⟩ (.int .i64 ((k : Int) + 1))) fun j hj => heap_setCell_other (w.drewN nq) ⟨g, 1, none⟩ j _ (show j ≠ g by omega))
    clear hc hcx hs1 hB1
    go_quiet (first | (go_at_call 18; (with_reducible refine (M.out _).mono ?_); exact fun e u h => ⟨h.1, _, h.2.symm⟩))
    go_wp2
    go_ret
    refine ⟨⟨m, hmn, rfl⟩, grown_drewN gg _, _, len, cap, k + 1, zs, hB, HB1.out, by omega, HD.out⟩
  · have HN := Lib.hid hN'
    have HH := Lib.hid hh
    have hge : (len : Int) ≤ (k : Int) := by omega
    have hge2 : len ≤ k := by omega
    clear hN' hcell hbd hh
    go_enter Tryd.func33, Tryd.ntmps33
    go_wp2
    go_quiet (fail)
    go_wp2
    go_ret
    refine ⟨⟨0, by omega, rfl⟩, grown_drewN (World.grownBy.refl w _) _, a, len, cap, k, zs, hB, HH.out, by omega, HN.out⟩

/-- What is owned from block C on is left alone where an elder block is written. -/
theorem owns_grown {w w' : World} {C e size n g : Nat} {v : Value} {xs : List Value} (h : w.ownsRow C e size v n xs) (hg : w.grownBy w' (some g)) (hlt : g < C) : w'.ownsRow C e size v n xs := by
  obtain ⟨h1, h2 | ⟨g', cap, cur, hv, hC, hh, r⟩⟩ := h
  · exact ⟨h1, .inl h2⟩
  · exact ⟨h1, .inr ⟨g', cap, cur, hv, hC, keepG hg (by omega) hh, r⟩⟩
/-- A write into what is owned from block C on leaves the blocks below alone. -/
theorem own_kept {a b : World} {C e size n : Nat} {v : Value} {xs : List Value} (h : a.ownsRow C e size v n xs) (k : a.grownBy b v.ownBlock) (j : Nat) (hj : j < C) (hs : j < a.heap.size) : b.heap[j]? = a.heap[j]? := by
  refine k.block j hs fun e => ?_
  obtain ⟨_, ⟨rfl, _⟩ | ⟨g', cap, cur, rfl, hC, _⟩⟩ := h
  · simp [Value.ownBlock] at e
  · simp [Value.ownBlock] at e; omega
theorem grown_own {W a b : World} {C e size n : Nat} {v : Value} {xs : List Value} {row : Option Nat} (h : W.grownBy a row) (hown : a.ownsRow C e size v n xs) (k : a.grownBy b v.ownBlock) (hC : W.heap.size ≤ C) : W.grownBy b row :=
  ⟨k.os.trans h.os, k.tape.trans h.tape, k.output.trans h.output, Nat.le_trans h.size k.size, fun j hj hne => (own_kept hown k j (by omega) (Nat.lt_of_lt_of_le hj h.size)).trans (h.block j hj hne)⟩

set_option maxHeartbeats 800000 in
set_option maxRecDepth 100000 in
theorem bytes_any (B g : Nat) (n : Nat) (w : World) (hn : n ≤ 100000) (hd : DiceAt B w g) : Calls Tryd.prog 34 #[.pointer (some ⟨g, 0, none⟩), .int .i64 (n : Int)] w fun e w' => (∃ r : ByteArray, r.size = n ∧ e = .returned (.string r)) ∧ w.grownBy w' (some g) ∧ DiceAt B w' g := by
  obtain ⟨i0, hi, hz0, hz1, hz2⟩ := info_parts Tryd.info5
  have N := Lib.hid (fun (wx : World) (hx : DiceAt B wx g) => next_any B g 256 wx (by decide) (by decide) hx)
  have hgw := hd.lt
  have HD := Lib.hid hd
  clear hd
  go_enter Tryd.func34, Tryd.ntmps34
  go_wp2
  go_loopw [5, 7] (fun v i wr => ∃ (j : Nat) (l : List UInt8), j ≤ n ∧ l.length = j ∧ i = .int .i64 j ∧ wr.ownsRow w.heap.size 5 1 v j (bytesV l) ∧ w.grownBy wr (some g) ∧ DiceAt B wr g) (fun _ i _ => n - (intOf i).toNat)
  case atStart => exact ⟨0, [], Nat.zero_le _, rfl, rfl, World.ownsRow_nil _ _ _ _, World.grownBy.refl _ _, HD.out⟩
  case round =>
    obtain ⟨j, l, hj, hlen, rfl, hown, hgr, hdi⟩ := hrel
    by_cases hlt : j < n
    · go_wp2_with (first
        | (go_at_call 33; refine (N.out _ hdi).mono ?_; rintro e w1 ⟨⟨m, hm, rfl⟩, hg1, hd1⟩; have hown1 := owns_grown hown hg1 hgw; have hgr1 := gtrans hgr hg1; have em : IntKind.u8.wrap (m : Int) = (m : Int) := by rw [IntKind.wrap_u8]; omega)
        | (at_builtin; refine wpList_append_own _ rfl (.tmp 9) (.tmp 13) 49 rfl w.heap.size 5 i0 (.int .u8 0) 1 1 Tryd.underlying49 hi hz0 hz1 hz2 rfl (by decide) _ j _ rfl (hown1.alloc _) ⟨w1.heap.size, 0, none⟩ 1 1 [.int .u8 m] rfl rfl (cell_one_new _ _ _) (by intro u hu; simp at hu; subst hu; rfl) (by unfold maxLen; omega) (by omega) (by have := hgr1.size; simp; omega) ?_))
      intro v' w2 hown2 hgrow _
      have hk := own_kept (hown1.alloc _) hgrow
      have hgr2 : w.grownBy w2 (some g) := grown_own (gtrans hgr1 (galloc _ _ _)) (hown1.alloc _) hgrow (Nat.le_refl _)
      have hd2 : DiceAt B w2 g := hd1.same fun q hq => by
        have hq1 : q < w1.heap.size := Nat.lt_of_le_of_lt hq hd1.lt
        exact (hk q (by omega) (by simp; omega)).trans (Below.heap_alloc w1 _ q hq1)
      have hown3 : w2.ownsRow w.heap.size 5 1 v' (j + 1) (bytesV (l ++ [UInt8.ofNat m])) := by
        rw [bytesV_append, show bytesV [UInt8.ofNat m] = [.int .u8 (m : Int)] by simp [bytesV, UInt8.toNat_ofNat']; omega]
        exact hown2
      clear hown2 hgrow hown hown1 hgr hgr1 hdi hd1 hk hg1
      go_wp2
      go_roundw
      case rel => exact ⟨j + 1, l ++ [UInt8.ofNat m], by omega, by simp [hlen], by go_num, hown3, hgr2, hd2⟩
      case measure => simp [intOf]; omega
    · obtain rfl : j = n := by omega
      have hcv := conv_owns (P := Tryd.prog) wr 49 9 5 w.heap.size j _ l hown Tryd.underlying49 Tryd.underlying5 Tryd.underlying9
      go_wp2
      go_ret
      exact ⟨⟨⟨l.toArray⟩, by show l.toArray.size = _; simpa using hlen, rfl⟩, hgr, hdi⟩

theorem next_lit (B g : Nat) (n : Nat) (z : Int) (hz : (n : Int) = z) (w : World) (h1 : 1 ≤ n) (hn : n < 2 ^ 62) (hd : DiceAt B w g) : Calls Tryd.prog 33 #[.pointer (some ⟨g, 0, none⟩), .int .i64 z] w fun e w' => (∃ k : Nat, k < n ∧ e = .returned (.int .i64 (k : Int))) ∧ w.grownBy w' (some g) ∧ DiceAt B w' g := hz ▸ next_any B g n w h1 hn hd
def strSize : Value → Nat
  | .string s => s.size
  | _ => 0
theorem grown_setNew {a b : World} {row : Option Nat} (h : a.grownBy b row) {k : Nat} (hk : a.heap.size ≤ k) (o : Nat) (v : Value) : a.grownBy (b.setCell ⟨k, o, none⟩ v) row :=
  ⟨h.os, h.tape, h.output, by simpa [World.setCell] using h.size, fun i hi hne => (heap_setCell_other b ⟨k, o, none⟩ i v (show i ≠ k by omega)).trans (h.block i hi hne)⟩
theorem DiceAt.setNew {B g : Nat} {w : World} (h : DiceAt B w g) {k : Nat} (hk : g < k) (o : Nat) (v : Value) : DiceAt B (w.setCell ⟨k, o, none⟩ v) g :=
  h.same fun j hj => heap_setCell_other w ⟨k, o, none⟩ j v (show j ≠ k by omega)
/-- Some primitive with a code. -/
def SomePrim (e : Ending) : Prop := ∃ (c : Nat) (raw : ByteArray), 1 ≤ c ∧ c ≤ 8 ∧ raw.size ≤ 1000 ∧ e = .returned (.agg #[.int .i64 (c : Int), .string raw])
theorem raw_pos (n : Nat) (h1 : 1 ≤ n) (h8 : n ≤ 8) : 2 ≤ rawN n ∧ rawN n ≤ 626 := by
  rcases eight_codes h1 h8 with rfl | rfl | rfl | rfl | rfl | rfl | rfl | rfl <;> decide
set_option maxHeartbeats 1600000 in
set_option maxRecDepth 100000 in
theorem prim_any (B g : Nat) (w : World) (hd : DiceAt B w g) : Calls Tryd.prog 12 #[.pointer (some ⟨g, 0, none⟩)] w fun e w' => SomePrim e ∧ w.grownBy w' (some g) ∧ DiceAt B w' g := by
  have N8 := Lib.hid (fun (wx : World) (hx : DiceAt B wx g) => next_lit B g 8 8 rfl wx (by decide) (by decide) hx)
  have N12 := Lib.hid (fun (wx : World) (hx : DiceAt B wx g) => next_lit B g 12 12 rfl wx (by decide) (by decide) hx)
  have N3 := Lib.hid (fun (wx : World) (hx : DiceAt B wx g) => next_lit B g 3 3 rfl wx (by decide) (by decide) hx)
  have hgw := hd.lt
  have r0 : (w.alloc (.cells #[.int .i64 0, .string ⟨#[]⟩] 24)).heap[w.heap.size]? = some (.cells #[.int .i64 0, .string ⟨#[]⟩] 24 (0, 0)) := heap_alloc_new _ _
  have D0 := Lib.hid (hd.below (C := w.heap.size) hgw ((Below.refl w.heap.size w).alloc (o := .cells #[.int .i64 0, .string ⟨#[]⟩] 24) (Nat.le_refl _)))
  have q0 := galloc w (.cells #[.int .i64 0, .string ⟨#[]⟩] 24) (some g)
  clear hd
  go_enter Tryd.func12, Tryd.ntmps12
  go_upto_region 2 with (go_at_call 33; (with_reducible refine (N8.out _ D0.out).mono ?_); rintro e w1 ⟨⟨k, hk8, rfl⟩, hg1, hd1⟩)
  have r1 := keepG hg1 (by omega) r0
  have q1 := gtrans q0 hg1
  have hgw1 : w.heap.size < w1.heap.size := lt_of_block r1
  have p2 : (w1.alloc (.cells #[.int .i64 (1 + (k : Int)), .string ⟨#[]⟩] 24)).heap[w1.heap.size]? = some (.cells #[.int .i64 (1 + (k : Int)), .string ⟨#[]⟩] 24 (0, 0)) := heap_alloc_new _ _
  have r2 : (w1.alloc (.cells #[.int .i64 (1 + (k : Int)), .string ⟨#[]⟩] 24)).heap[w.heap.size]? = some (.cells #[.int .i64 0, .string ⟨#[]⟩] 24 (0, 0)) := (Below.heap_alloc w1 _ _ hgw1).trans r1
  have d2 : DiceAt B (w1.alloc (.cells #[.int .i64 (1 + (k : Int)), .string ⟨#[]⟩] 24)) g := hd1.go ((Below.refl w1.heap.size w1).alloc (Nat.le_refl _) _)
  have q2 : w.grownBy (w1.alloc (.cells #[.int .i64 (1 + (k : Int)), .string ⟨#[]⟩] 24)) (some g) := gtrans q1 (galloc _ _ _)
  have R := Lib.hid (fun (wx : World) => rraw_any (1 + (k : Int)) wx)
  have hrp := raw_pos (k + 1) (by omega) (by omega)
  obtain ⟨r, hr⟩ : ∃ r, r = rawN (k + 1) := ⟨_, rfl⟩
  rw [show rawI (1 + (k : Int)) = (r : Int) by unfold rawI; rw [hr, show (1 + (k : Int)).toNat = k + 1 by omega]] at R
  rw [← hr] at hrp
  obtain ⟨hr1, hr2⟩ := hrp
  obtain ⟨W2, hW2⟩ : ∃ W2, W2 = w1.alloc (.cells #[.int .i64 (1 + (k : Int)), .string ⟨#[]⟩] 24) := ⟨_, rfl⟩
  rw [← hW2] at p2 r2 d2 q2
  rw [← hW2]
  have hgs : w1.heap.size < W2.heap.size := by rw [hW2]; simp
  have pc := two_of p2
  clear hr D0 r0 q0 hg1 hd1 r1 q1 hW2
  go_upto_if 15 with (first
    | (go_at_call 30; (with_reducible refine (R.out _).mono ?_); rintro e w3 ⟨rfl, hb3⟩; have d3 := d2.go hb3)
    | (go_at_call 33; (with_reducible refine (N12.out _ d3).mono ?_); rintro e w4 ⟨⟨k2, hk2, rfl⟩, hg4, d4⟩))
  have r4 := keepG hg4 (by omega) (keepB hb3 (by omega) r2)
  have p4 := keepG hg4 (by omega) (keepB hb3 hgs p2)
  have q4 := gtrans (gtrans q2 (grown_of_below hb3 (Nat.le_refl _) _)) hg4
  clear d2 d3 r2 p2 pc q2 hb3 hg4 hgs
  go_cut [4] from 15 (fun v wx => ∃ N : Nat, 1 ≤ N ∧ N ≤ 628 ∧ v = .int .i64 N ∧ wx.heap[w.heap.size]? = some (.cells #[.int .i64 0, .string ⟨#[]⟩] 24 (0, 0)) ∧ wx.heap[w1.heap.size]? = some (.cells #[.int .i64 (1 + (k : Int)), .string ⟨#[]⟩] 24 (0, 0)) ∧ DiceAt B wx g ∧ w.grownBy wx (some g))
  case first =>
    go_wp2_with (go_at_call 33; (with_reducible refine (N3.out _ d4).mono ?_); rintro e w5 ⟨⟨k3, hk3, rfl⟩, hg5, d5⟩)
    all_goals go_meet
    all_goals first
      | exact ⟨r, by omega, by omega, rfl, r4, p4, d4, q4⟩
      | exact ⟨r + k3 - 1, by omega, by omega, by rw [show ((r + k3 - 1 : Nat) : Int) = (r : Int) + ((k3 : Int) - 1) by omega], keepG hg5 (by omega) r4, keepG hg5 (by omega) p4, d5, gtrans q4 hg5⟩
  case rest =>
    obtain ⟨N, hN1, hN2, rfl, rc, pc, dc, qc⟩ := hcut
    clear d4 r4 p4 q4
    go_upto_region 5 with fail
    go_cut [5] from 21 (fun v wx => ∃ s0 : ByteArray, s0.size ≤ 8 ∧ v = .string s0 ∧ wx.heap[w.heap.size]? = some (.cells #[.int .i64 0, .string ⟨#[]⟩] 24 (0, 0)) ∧ wx.heap[w1.heap.size]? = some (.cells #[.int .i64 (1 + (k : Int)), .string ⟨#[]⟩] 24 (0, 0)) ∧ DiceAt B wx g ∧ w.grownBy wx (some g))
    case first =>
      by_cases h8 : N ≤ 8
      · have h8' : (N : Int) ≤ 8 := by omega
        have h8'' : ¬ (8 : Int) < (N : Int) := by omega
        have Y := Lib.hid (bytes_any B g N wc (by omega) dc)
        go_wp2_with (go_at_call 34; (with_reducible refine (Y.out).mono ?_); rintro e w6 ⟨⟨s0, hs0, rfl⟩, hg6, d6⟩)
        go_meet
        exact ⟨s0, by omega, rfl, keepG hg6 (by omega) rc, keepG hg6 (by omega) pc, d6, gtrans qc hg6⟩
      · have h8' : ¬ (N : Int) ≤ 8 := by omega
        have h8'' : (8 : Int) < (N : Int) := by omega
        have Y := Lib.hid (bytes_any B g 8 wc (by omega) dc)
        rw [show ((8 : Nat) : Int) = 8 from rfl] at Y
        go_wp2_with (go_at_call 34; (with_reducible refine (Y.out).mono ?_); rintro e w6 ⟨⟨s0, hs0, rfl⟩, hg6, d6⟩)
        go_meet
        exact ⟨s0, by omega, rfl, keepG hg6 (by omega) rc, keepG hg6 (by omega) pc, d6, gtrans qc hg6⟩
    case rest =>
    clear rc pc dc qc
    obtain ⟨s0, hs0, rfl, r6, p6, d6, q6⟩ := hcut
    go_wp2
    go_loop [5] (fun v => ∃ raw : ByteArray, raw.size ≤ 700 ∧ v = .string raw) (fun v => 700 - strSize v)
    case atStart => exact ⟨s0, by omega, rfl⟩
    case round =>
      obtain ⟨raw, hraw, rfl⟩ := hrel
      have hcat : ¬ 9223372036854775807 < raw.size + 1 := by omega
      by_cases hlt : raw.size < N
      · have hlt' : (raw.size : Int) < (N : Int) := by omega
        go_wp2
        go_round
        case rel => exact ⟨raw ++ { data := #[7] }, by rw [ByteArray.size_append]; show raw.size + 1 ≤ _; omega, rfl⟩
        case measure =>
          show 700 - (raw ++ { data := #[7] }).size < 700 - raw.size
          rw [ByteArray.size_append]
          show 700 - (raw.size + 1) < _
          omega
      · have hlt' : ¬ (raw.size : Int) < (N : Int) := by omega
        have f6 := free_two p6
        have c6 := two_of p6
        have rr := free_two r6
        have cr := two_of r6
        have hne : ¬ w.heap.size = w1.heap.size := by omega
        have hne2 : ¬ w1.heap.size = w.heap.size := by omega
        go_wp2
        have rB := (heap_setCell_other wc ⟨w1.heap.size, 1, none⟩ w.heap.size (.string raw) hne).trans r6
        refine bodyPost_ret (v := .agg #[.int .i64 (1 + (k : Int)), .string raw]) ?_ ?_ ?_
        rotate_left
        · rfl
        · refine ⟨show SomePrim _ from ⟨k + 1, raw, by omega, by omega, by omega, by rw [show ((k + 1 : Nat) : Int) = 1 + (k : Int) by omega]⟩, ?_, ?_⟩
          · exact grown_setNew (grown_setNew (grown_setNew q6 (by omega) _ _) (Nat.le_refl _) _ _) (Nat.le_refl _) _ _
          · exact ((d6.setNew (by omega) _ _).setNew (by omega) _ _).setNew (by omega) _ _
        · have q := two_put rB (.int .i64 (1 + (k : Int))) (.string raw)
          have q0 := q.1
          have q1 := q.2
          simp [results, Tryd.results12, go_sem, q0, q1]

end Go.Proofs.YteammnfdhdhefaaDoor
