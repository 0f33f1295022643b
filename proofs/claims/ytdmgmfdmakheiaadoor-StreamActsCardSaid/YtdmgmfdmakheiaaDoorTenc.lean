/- The contracts of strings.Builder in the numbers of this program: each is a theorem of the library, proved once over any program; here the kernel compares the bodies and types. Then: The program's Encode of groups: exceedsLimit, followsPattern, textOf, Encode, Binary; and strings.Builder in plain words. -/
import Derived.Test.YtdmgmfdmakheiaaDoorProg
import Derived.Shelf.Strings.Builder1
import Derived.Shelf.Strings.Builder2
import Derived.Test.YtdmgmfdmakheiaaDoorTshape
import Derived.Test.YtdmgmfdmakheiaaDoorQenc
import Derived.Test.YtdmgmfdmakheiaaDoorQraw
import Derived.Test.YtdmgmfdmakheiaaDoorSbin
import Derived.Deep.DeepCutAuto
import Derived.Deep.RegionHeld3
namespace Go.Proofs.YtdmgmfdmakheiaaDoor
open Go.Shelf Go.RowKit
set_option linter.unusedVariables false

def bren : Go.Shelf.Ren := ⟨fun | 240 => 53 | 276 => 70 | 166 => 32 | 169 => 33 | n => n, fun | 0 => 0 | 3 => 3 | 4 => 4 | 5 => 5 | 9 => 9 | 20 => 20 | 37 => 49 | 70 => 59 | 72 => 61 | 75 => 64 | 80 => 67 | 127 => 88 | 164 => 108 | n => n, fun | n => n⟩

theorem lays166 : Go.Proofs.Lays.n166 Tryd.prog bren := {
  mixed := by kernel_rfl
  f166 := Tryd.func32.trans (congrArg some (by kernel_rfl))
  f240 := Tryd.func53.trans (congrArg some (by kernel_rfl))
  f276 := Tryd.func70.trans (congrArg some (by kernel_rfl))
  t0 := Tryd.underlying0
  a0 := Tryd.isAgg0
  z0 := Tryd.sizeOf0
  v0 := Tryd.zeroValue0
  t3 := Tryd.underlying3
  a3 := Tryd.isAgg3
  z3 := Tryd.sizeOf3
  v3 := Tryd.zeroValue3
  t4 := Tryd.underlying4
  a4 := Tryd.isAgg4
  z4 := Tryd.sizeOf4
  v4 := Tryd.zeroValue4
  t9 := Tryd.underlying9
  a9 := Tryd.isAgg9
  z9 := Tryd.sizeOf9
  v9 := Tryd.zeroValue9
  t20 := Tryd.underlying20
  a20 := Tryd.isAgg20
  z20 := Tryd.sizeOf20
  v20 := Tryd.zeroValue20
  t37 := Tryd.underlying49
  a37 := Tryd.isAgg49
  z37 := Tryd.sizeOf49
  v37 := Tryd.zeroValue49
  t70 := Tryd.underlying59
  a70 := Tryd.isAgg59
  z70 := Tryd.sizeOf59
  v70 := Tryd.zeroValue59
  t72 := Tryd.underlying61
  a72 := Tryd.isAgg61
  z72 := Tryd.sizeOf61
  v72 := Tryd.zeroValue61
  t75 := Tryd.underlying64
  a75 := Tryd.isAgg64
  z75 := Tryd.sizeOf64
  v75 := Tryd.zeroValue64
  t164 := Tryd.underlying108
  a164 := Tryd.isAgg108
  z164 := Tryd.sizeOf108
  v164 := Tryd.zeroValue108
}
theorem lays169 : Go.Proofs.Lays.n169 Tryd.prog bren := {
  mixed := by kernel_rfl
  f169 := Tryd.func33.trans (congrArg some (by kernel_rfl))
  t0 := Tryd.underlying0
  a0 := Tryd.isAgg0
  z0 := Tryd.sizeOf0
  v0 := Tryd.zeroValue0
  t3 := Tryd.underlying3
  a3 := Tryd.isAgg3
  z3 := Tryd.sizeOf3
  v3 := Tryd.zeroValue3
  t9 := Tryd.underlying9
  a9 := Tryd.isAgg9
  z9 := Tryd.sizeOf9
  v9 := Tryd.zeroValue9
  t37 := Tryd.underlying49
  a37 := Tryd.isAgg49
  z37 := Tryd.sizeOf49
  v37 := Tryd.zeroValue49
  t70 := Tryd.underlying59
  a70 := Tryd.isAgg59
  z70 := Tryd.sizeOf59
  v70 := Tryd.zeroValue59
  t72 := Tryd.underlying61
  a72 := Tryd.isAgg61
  z72 := Tryd.sizeOf61
  v72 := Tryd.zeroValue61
  t127 := Tryd.underlying88
  a127 := Tryd.isAgg88
  z127 := Tryd.sizeOf88
  v127 := Tryd.zeroValue88
}
theorem bextra : Builder.Extra Tryd.prog bren := {
  sizeBuilder := by kernel_rfl
  liesBuilder := by kernel_rfl
  t5 := Tryd.underlying5
  a5 := Tryd.isAgg5
  z5 := Tryd.sizeOf5
  v5 := Tryd.zeroValue5
  infoByte := by kernel_rfl
  cellsByte := by kernel_rfl
  sizeByte := by kernel_rfl
  neB5 := by decide }

theorem b_writeString (B b : Nat) (bs : List Value) (s : ByteArray) (w : World) (h : Lib.IsBuilder 61 5 B b bs w) (hlen : bs.length + s.size ≤ 140737488355328) (hBw : B ≤ w.heap.size) :
    Calls Tryd.prog 32 #[.pointer (some ⟨b, 0, none⟩), .string s] w fun e w' => e = .returned (.tuple #[.int .i64 s.size, .nilIface]) ∧ (Lib.BuilderAt 61 5 B b (.pointer (some ⟨b, 0, none⟩)) (bs ++ Lib.strCells s) w' ∧ Below B w w') :=
  Any.Builder_WriteString lays166 bextra B b bs s w h hlen hBw
theorem b_string (B b : Nat) (l : List UInt8) (w : World) (h : Lib.IsBuilder 61 5 B b (Lib.byteCells l) w) (hBw : B ≤ w.heap.size) :
    Calls Tryd.prog 33 #[.pointer (some ⟨b, 0, none⟩)] w fun e w' => e = .returned (.string ⟨l.toArray⟩) ∧ Below B w w' :=
  Any.Builder_String_any lays169 bextra B b l w h hBw

end Go.Proofs.YtdmgmfdmakheiaaDoor

namespace Go.Proofs.YtdmgmfdmakheiaaDoor
open Go.ChangeShapes Go.WideShapes Go.ChangeAt Go.RowKit
set_option linter.unusedVariables false
set_option linter.unusedSimpArgs false

/-- The three tables read as they are laid. -/
structure Tbs (w : World) : Prop where
  tab : Tab w
  lay : Lay w
  shp : Shp w
theorem Tbs.go {w w' : World} (h : Tbs w) (hb : Below w.heap.size w w') : Tbs w' := ⟨h.tab.go hb, h.lay.go hb, h.shp.go hb⟩
theorem Tbs.drew {w : World} (h : Tbs w) : Tbs w.drew := ⟨h.tab, h.lay, h.shp⟩
theorem Tbs.drewN {w : World} (h : Tbs w) (n : Nat) : Tbs (w.drewN n) := ⟨h.tab, h.lay, h.shp⟩
theorem Tbs.below {w w' : World} {B : Nat} (h : Tbs w) (hb : Below B w w') (hB : w.heap.size ≤ B) : Tbs w' := ⟨h.tab.below (Nat.lt_of_lt_of_le h.tab.lt hB) hb, h.lay.below (Nat.lt_of_lt_of_le h.lay.lt hB) hb, h.shp.below hb hB⟩

/-- Block b is a strings.Builder that holds l; what it has lies from b on. -/
def Bld (w : World) (b : Nat) (l : List UInt8) : Prop := Lib.IsBuilder 61 5 b b (Lib.byteCells l) w
theorem Bld.go {w w' : World} {b : Nat} {l : List UInt8} (h : Bld w b l) (hb : Below w.heap.size w w') : Bld w' b l := by
  have hg : w.grownBy w' none := ⟨hb.os, hb.tape, hb.output, hb.size, fun i hi _ => hb.block i hi⟩
  have key : ∀ p, Lib.BuilderAt 61 5 b b p (Lib.byteCells l) w → Lib.BuilderAt 61 5 b b p (Lib.byteCells l) w' := by
    rintro p ⟨h1, v, h2, h3, h4⟩
    refine ⟨h1, v, keepB hb (lt_of_block h2) h2, h3.kept hg ?_, h4⟩
    cases e : v.ownBlock with
    | none => exact .inl rfl
    | some b => exact .inr (by simp)
  exact h.imp (key _) (key _)
theorem Bld.lt {w : World} {b : Nat} {l : List UInt8} (h : Bld w b l) : b < w.heap.size := by
  rcases h with ⟨_, v, h2, _⟩ | ⟨_, v, h2, _⟩ <;> exact lt_of_block h2
theorem Bld.new (w : World) : Bld (w.alloc (.cells #[.pointer none, .slice none 0 0] 61)) w.heap.size [] :=
  .inl ⟨Nat.le_refl _, .slice none 0 0, heap_alloc_new _ _, World.ownsRow_nil _ _ _ _, by simp [Value.ownBlock]⟩
theorem bld_write (b : Nat) (l : List UInt8) (s : ByteArray) (w : World) (h : Bld w b l) (hlen : l.length + s.size ≤ 140737488355328) : Calls Tryd.prog 32 #[.pointer (some ⟨b, 0, none⟩), .string s] w fun e w' => e = .returned (.tuple #[.int .i64 s.size, .nilIface]) ∧ Bld w' b (l ++ s.data.toList) ∧ Below b w w' := by
  refine (b_writeString b b (Lib.byteCells l) s w h (by simpa [Lib.byteCells] using hlen) (Nat.le_of_lt h.lt)).mono ?_
  rintro e w' ⟨rfl, h2, h3⟩
  rw [Lib.strCells_eq, ← Lib.byteCells_append] at h2
  exact ⟨rfl, .inr h2, h3⟩
theorem bld_string (b : Nat) (l : List UInt8) (w : World) (h : Bld w b l) : Calls Tryd.prog 33 #[.pointer (some ⟨b, 0, none⟩)] w fun e w' => e = .returned (.string (strL l)) ∧ Below b w w' := b_string b b l w h (Nat.le_of_lt h.lt)

theorem cnt_mono (G : List Grp) {i j : Nat} (h : i ≤ j) : cntG (G.take i) ≤ cntG (G.take j) := by
  have := cnt_le (G.take j) i
  rwa [List.take_take, Nat.min_eq_left h] at this
set_option maxHeartbeats 800000 in
set_option maxRecDepth 100000 in
theorem exceeds_any (vi : Value) (G : List Grp) (w : World) (hG : GroupsAt w.heap.size w vi G) (hcnt : cntG G ≤ 1000000) : Calls Tryd.prog 29 #[vi] w fun e w' => e = .returned (.bool (decide (1024 < cntG G))) ∧ Below w.heap.size w w' := by
  obtain ⟨ao, cap, rfl, hlc, hcm, hrd⟩ := hG
  unfold maxLen at hcm
  have b0 := Below.refl w.heap.size w
  have HRD := Lib.hid hrd
  obtain ⟨R, hR⟩ : ∃ R, R = decide (1024 < cntG G) := ⟨_, rfl⟩
  rw [← hR]
  have HR := Lib.hid hR
  clear hrd hR
  go_enter Tryd.func29, Tryd.ntmps29
  go_wp2
  go_loopw [3, 8] (fun n i wr => ∃ j c : Nat, j ≤ G.length ∧ i = .int .i64 j ∧ n = .int .i64 (c : Nat) ∧ c = cntG (G.take j) ∧ c ≤ 1024 ∧ Below w.heap.size w wr) (fun _ i _ => G.length - (intOf i).toNat)
  case atStart => exact ⟨0, 0, Nat.zero_le _, rfl, rfl, rfl, Nat.zero_le _, b0⟩
  case round =>
    clear b0
    obtain ⟨j, c, hj, rfl, rfl, hc, hc1, hB⟩ := hrel
    by_cases hlt : j < G.length
    · obtain ⟨b, off, k, L, vj, hj', rfl, hbw, ce1, ce2, hp⟩ := HRD.out j hlt
      replace ce1 := (hB.cell (p := ⟨b, off + j * 2, none⟩) hbw).trans ce1
      replace ce2 := (hB.cell (p := ⟨b, off + j * 2 + 1, none⟩) hbw).trans ce2
      obtain ⟨ap, cp, rfl, hlp, hcp, _⟩ := hp
      unfold maxLen at hcp
      have hst := cnt_step hj'
      have hmx := cnt_item hj'
      rw [← hc] at hst hmx
      have hcs : c + L.length ≤ 9223372036854775807 := by omega
      have HST := Lib.hid hst
      have HMX := Lib.hid hmx
      have rb := hB.alloc (o := .cells #[.int .i64 k, .slice ap L.length cp] 28) hB.size
      by_cases hov : 1024 < c + L.length
      · have hov' : (1024 : Int) < (c : Int) + (L.length : Int) := by omega
        clear hc hst hmx hB
        go_wp2
        go_ret
        exact ⟨by rw [HR.out, decide_eq_true (Nat.lt_of_lt_of_le hov HMX.out)]; rfl, rb⟩
      · have hov' : ¬ (1024 : Int) < (c : Int) + (L.length : Int) := by omega
        have hcc : c + L.length ≤ 1024 := by omega
        clear hc hst hmx hB
        go_wp2
        go_roundw
        case rel => exact ⟨j + 1, c + L.length, by omega, by go_num, by go_num, HST.out.symm, hcc, rb⟩
        case measure => simp [intOf]; omega
    · obtain rfl : j = G.length := by omega
      rw [List.take_length] at hc
      have HC := Lib.hid hc
      clear hc
      go_wp2
      go_ret
      exact ⟨by rw [HR.out, ← HC.out, decide_eq_false (by omega)]; rfl, hB⟩

set_option maxHeartbeats 800000 in
set_option maxRecDepth 100000 in
theorem follows_any (k : Int) (vi : Value) (L : List (Int × ByteArray)) (w : World) (hL : PrimsAt w.heap.size w vi L) (hlen : L.length ≤ 1000000) (hS : Shp w) : Calls Tryd.prog 30 #[.agg #[.int .i64 k, vi]] w fun e w' => e = .returned (.bool (follL k L)) ∧ Below w.heap.size w w' := by
  obtain ⟨ao, cap, rfl, hlc, hcm, hrd⟩ := hL
  unfold maxLen at hcm
  obtain ⟨P, hP⟩ : ∃ P, P = permL k := ⟨_, rfl⟩
  obtain ⟨m, hm⟩ : ∃ m, m = P.length := ⟨_, rfl⟩
  have hm2 : m ≤ 2 := by rw [hm, hP]; exact permL_len k
  have PM : Hid (∀ wx : World, Shp wx → Calls Tryd.prog 25 #[.int .i64 k] wx fun e w' => ∃ ap cp, e = .returned (.slice ap m cp) ∧ Below wx.heap.size wx w' ∧ m ≤ cp ∧ ∀ j, j < m → ∃ b off, ap = some ⟨b, off, none⟩ ∧ b < w'.heap.size ∧ w'.cell? ⟨b, off + j, none⟩ = some (.int .i64 (P.getD j 0))) :=
    fun wx hs => (perm_any k wx hs).mono fun e w' ⟨v, he, hb, ap, cp, hv, hc, hr⟩ => ⟨ap, cp, by rw [he, hv, hm, hP], hb, by rw [hm, hP]; exact hc, fun j hj => by rw [hP]; exact hr j (by rw [← hP, ← hm]; exact hj)⟩
  have k0 := two_new w (.int .i64 k) (.slice ao L.length cap) 28
  have g0 : w.heap.size < (w.alloc (.cells #[.int .i64 k, .slice ao L.length cap] 28)).heap.size := by simp
  have b0 := (Below.refl w.heap.size w).alloc (o := .cells #[.int .i64 k, .slice ao L.length cap] 28) (Nat.le_refl _)
  have HS0 := Lib.hid (hS.go b0)
  clear hS
  obtain ⟨F, hF⟩ : ∃ F, F = follL k L := ⟨_, rfl⟩
  rw [← hF]
  have HF := Lib.hid hF
  clear hF
  by_cases h0 : m = 0
  · have hf := foll_none (k := k) (L := L) (by rw [← hP, ← hm]; exact h0)
    have HF2 := Lib.hid hf
    subst h0
    clear hf hm hP hrd
    go_enter Tryd.func30, Tryd.ntmps30
    go_wp2_with (go_at_call 25; (with_reducible refine (PM.out _ HS0.out).mono ?_); rintro e w1 ⟨ap, cp, rfl, hb1, hc, hr⟩; have k1 := two_keep hb1 g0 k0)
    go_ret
    exact ⟨by rw [HF.out, HF2.out]; rfl, b0.trans (hb1.mono (Nat.le_of_lt g0))⟩
  · have hmz : ((m : Int) == 0) = false := by simp; omega
    by_cases hr1 : L.length % m = 0
    · have hrz : ((L.length : Int).tmod (m : Int)) = 0 := by rw [Int.tmod_eq_emod, if_pos (.inl (by omega))]; simp; omega
      have HG := Lib.hid (fun h => foll_good (k := k) (L := L) (by rw [← hP, ← hm]; exact h0) (by rw [← hP, ← hm]; exact hr1) h)
      have HBD := Lib.hid (fun j c r hj h => foll_bad (k := k) (L := L) j c r hj h)
      rw [← hP, ← hm] at HG HBD
      have HRD := Lib.hid hrd
      clear hm hP hr1 hrd
      go_enter Tryd.func30, Tryd.ntmps30
      go_wp2_with (go_at_call 25; (with_reducible refine (PM.out _ HS0.out).mono ?_); rintro e w1 ⟨ap, cp, rfl, hb1, hc, hr⟩; have k1 := two_keep hb1 g0 k0)
      obtain ⟨b, off, rfl, hbw, _⟩ := hr 0 (by omega)
      have hr' : Hid (∀ q, q < m → w1.cell? ⟨b, off + q, none⟩ = some (.int .i64 (P.getD q 0))) := by
        intro q hq
        obtain ⟨b', off', e, _, hc'⟩ := hr q hq
        cases e
        exact hc'
      clear hr
      have hbb := b0.trans (hb1.mono (Nat.le_of_lt g0))
      clear b0 g0 k0 hb1 k1 hc
      go_loopw [24] (fun i wr => ∃ j : Nat, j ≤ L.length ∧ i = .int .i64 j ∧ Below w.heap.size w wr ∧ Below w1.heap.size w1 wr ∧ ∀ q, q < j → ∀ c r, L[q]? = some (c, r) → c = P.getD (q % m) 0) (fun i _ => L.length - (intOf i).toNat)
      case atStart => exact ⟨0, Nat.zero_le _, rfl, hbb, Below.refl _ _, fun q hq => absurd hq (Nat.not_lt_zero _)⟩
      case round =>
        clear hbb
        obtain ⟨j, hj, rfl, q1, q2, hag⟩ := hrel
        have HA := Lib.hid hag
        clear hag
        by_cases hlt : j < L.length
        · obtain ⟨be, oe, c, r, hj', rfl, hbe, ce1, ce2, hrs⟩ := HRD.out j hlt
          have hne : be ≠ wr.heap.size := by have := q1.size; omega
          have hnb : b ≠ wr.heap.size := by have := q2.size; omega
          replace ce1 := (q1.cell (p := ⟨be, oe + j * 2, none⟩) hbe).trans ce1
          replace ce2 := (q1.cell (p := ⟨be, oe + j * 2 + 1, none⟩) hbe).trans ce2
          have hjm : (j : Int).tmod (m : Int) = ((j % m : Nat) : Int) := by rw [Int.tmod_eq_emod, if_pos (.inl (by omega))]; simp
          have hjl : j % m < m := Nat.mod_lt _ (by omega)
          have cb := (q2.cell (p := ⟨b, off + j % m, none⟩) hbw).trans (hr'.out _ hjl)
          obtain ⟨x, hx⟩ : ∃ x, x = P.getD (j % m) 0 := ⟨_, rfl⟩
          have HX := Lib.hid hx
          rw [← hx] at cb
          obtain ⟨y, hy⟩ : ∃ y, y = j % m := ⟨_, rfl⟩
          rw [← hy] at cb hjm hjl
          clear hx hy
          have r1 := q1.alloc (o := .cells #[.int .i64 c, .string r] 48) q1.size
          have r2 := q2.alloc (o := .cells #[.int .i64 c, .string r] 48) q2.size
          have ca := two_new wr (.int .i64 c) (.string r) 48
          have cb' : (wr.alloc (.cells #[.int .i64 c, .string r] 48)).cell? ⟨b, off + y, none⟩ = some (.int .i64 x) := (((Below.refl wr.heap.size wr).alloc (o := .cells #[.int .i64 c, .string r] 48) (Nat.le_refl _)).cell (p := ⟨b, off + y, none⟩) (Nat.lt_of_lt_of_le hbw q2.size)).trans cb
          have HRr := Lib.hid hrs
          clear hrs cb q1 q2
          go_wp2
          obtain ⟨wa, hwa⟩ : ∃ wa, wa = wr.alloc (.cells #[.int .i64 c, .string r] 48) := ⟨_, rfl⟩
          rw [← hwa] at ca cb' r1 r2
          simp only [← hwa]
          obtain ⟨ca1, ca2⟩ := ca
          clear hwa hne hnb ce1 ce2
          by_cases hcx : c = x
          · have hcb : (c != x) = false := by simpa using hcx
            go_quiet (fail)
            go_wp2
            go_roundw
            case rel =>
              refine ⟨j + 1, by omega, by go_num, bdrewN r1 _, bdrewN r2 _, fun q hq c' r' he => ?_⟩
              by_cases hqj : q < j
              · exact HA.out q hqj c' r' he
              · obtain rfl : q = j := by omega
                rw [hj'] at he
                cases he
                rw [hcx, HX.out]
            case measure => simp [intOf]; omega
          · have hcb : (c != x) = true := by simpa using hcx
            go_quiet (fail)
            go_wp2
            go_ret
            exact ⟨by rw [HF.out, HBD.out j c r hj' (by rw [← HX.out]; exact hcx)]; rfl, bdrewN r1 _⟩
        · obtain rfl : j = L.length := by omega
          go_wp2
          go_ret
          exact ⟨by rw [HF.out, HG.out fun q c r hq he => HA.out q hq c r he]; rfl, q1⟩
    · have hrz : ((L.length : Int).tmod (m : Int)) = ((L.length % m : Nat) : Int) := by rw [Int.tmod_eq_emod, if_pos (.inl (by omega))]; simp
      have hrn : ((L.length % m : Nat) : Int) ≠ 0 := by omega
      obtain ⟨x, hx⟩ : ∃ x : Int, x = ((L.length % m : Nat) : Int) := ⟨_, rfl⟩
      rw [← hx] at hrz hrn
      have hxz : (x != 0) = true := by simpa using hrn
      have hf := foll_rest (k := k) (L := L) (by rw [← hP, ← hm]; exact hr1)
      have HF2 := Lib.hid hf
      clear hf hm hP hrd hr1 hx hrn
      go_enter Tryd.func30, Tryd.ntmps30
      go_wp2_with (go_at_call 25; (with_reducible refine (PM.out _ HS0.out).mono ?_); rintro e w1 ⟨ap, cp, rfl, hb1, hc, hr⟩; have k1 := two_keep hb1 g0 k0)
      go_ret
      exact ⟨by rw [HF.out, HF2.out]; rfl, b0.trans (hb1.mono (Nat.le_of_lt g0))⟩

/-- What textOf returns for a group that follows its pattern. -/
def txtGS (k : Int) (L : List Prim) : ByteArray := if itemsE L ≠ 0 then ⟨#[]⟩ else strL (grpL (k, L))
set_option maxHeartbeats 1600000 in
set_option maxRecDepth 100000 in
theorem textOf_any (k : Int) (vi : Value) (L : List Prim) (w : World) (hL : PrimsAt w.heap.size w vi L) (hll : L.length ≤ 1024) (hfo : follL k L = true) (hT : Tbs w) : Calls Tryd.prog 31 #[.agg #[.int .i64 k, vi]] w fun e w' => e = .returned (.tuple #[.string (txtGS k L), .int .i64 (itemsE L)]) ∧ Below w.heap.size w w' := by
  obtain ⟨ao, cap, rfl, hlc, hcm, hrd⟩ := hL
  unfold maxLen at hcm
  have k1 := two_new w (.int .i64 k) (.slice ao L.length cap) 28
  have g1 : w.heap.size < (w.alloc (.cells #[.int .i64 k, .slice ao L.length cap] 28)).heap.size := by simp
  have b1 := (Below.refl w.heap.size w).alloc (o := .cells #[.int .i64 k, .slice ao L.length cap] 28) (Nat.le_refl _)
  have TB1 := Lib.hid (hT.go b1)
  obtain ⟨hm0, hmk⟩ := foll_mark hfo hll
  obtain ⟨m, hm⟩ : ∃ m, m = (permL k).length := ⟨_, rfl⟩
  have PM : Hid (∀ wx : World, Shp wx → Calls Tryd.prog 25 #[.int .i64 k] wx fun e w' => ∃ ao cap, e = .returned (.slice ao m cap) ∧ Below wx.heap.size wx w' ∧ m ≤ cap) := fun wx hs => (perm_any k wx hs).mono fun e w' ⟨v, he, hb, ao, cap, hv, hc, _⟩ => ⟨ao, cap, by rw [he, hv, hm], hb, by rw [hm]; exact hc⟩
  rw [← hm] at hm0 hmk
  have hgl : grpL (k, L) = markL k ((L.length / m : Nat) : Int) ++ itemsL L := by unfold grpL; rw [← hm]
  obtain ⟨n, hn⟩ : ∃ n, n = L.length / m := ⟨_, rfl⟩
  have hqd : (L.length : Int).tdiv (m : Int) = (n : Int) := by rw [Int.tdiv_eq_ediv_of_nonneg (by omega), hn]; simp
  have hnl : n ≤ 1024 := by rw [hn]; exact Nat.le_trans (Nat.div_le_self _ _) hll
  rw [← hn] at hmk hgl
  have hme : markE k (n : Int) = 0 := by
    have hk : ¬ (k < 1 ∨ 4 < k) := fun e => hm0 (by rw [hm, (permL_none k).2 e]; rfl)
    unfold markE; rw [if_neg (by unfold badMark; omega)]
  have MK0 := fun (wx : World) (hs : Shp wx) => mark_any k (n : Int) wx (by omega) hs
  rw [hmk, hme] at MK0
  obtain ⟨M, hM⟩ : ∃ M, M = markL k (n : Int) := ⟨_, rfl⟩
  have hMl : M.length = 4 := by rw [hM]; exact markL_length _ _
  rw [← hM] at MK0 hgl
  have hsd : (strL M).data.toList = M := rfl
  have hss : (strL M).size = 4 := by show M.toArray.size = 4; simp [hMl]
  obtain ⟨MS, hMS⟩ : ∃ s, s = strL M := ⟨_, rfl⟩
  rw [← hMS] at MK0 hss hsd
  have hw : IntKind.i64.wrap (n : Int) = (n : Int) := by rw [IntKind.wrap_i64]; omega
  have MK : Hid (∀ wx : World, Shp wx → Calls Tryd.prog 23 #[.int .i64 k, .int .i64 (IntKind.i64.wrap (n : Int))] wx fun e w' => e = .returned (.tuple #[.string MS, .int .i64 0]) ∧ Below wx.heap.size wx w') := by rw [hw]; exact MK0
  have HSD := Lib.hid hsd
  have HGL := Lib.hid hgl
  have HRD := Lib.hid hrd
  have hmz : ((m : Int) == 0) = false := by simp; omega
  obtain ⟨E, hE⟩ : ∃ E, E = itemsE L := ⟨_, rfl⟩
  obtain ⟨S, hS⟩ : ∃ S, S = txtGS k L := ⟨_, rfl⟩
  rw [← hE, ← hS]
  have HE := Lib.hid hE
  have HS := Lib.hid hS
  have il := fun i => items_le (L.take i)
  have hIL : Hid (∀ i, (itemsL (L.take i)).length ≤ 856064) := fun i => by
    have h1 := il i
    have h2 : (L.take i).length ≤ L.length := by rw [List.length_take]; exact Nat.min_le_right _ _
    omega
  clear hfo hmk hgl hn hm MK0 hM hMS hw hme hE hS hrd hsd il hT
  go_enter Tryd.func31, Tryd.ntmps31
  go_upto_region 12 with fail
  obtain ⟨wa, hwa⟩ : ∃ wa, wa = w.alloc (.cells #[.int .i64 k, .slice ao L.length cap] 28) := ⟨_, rfl⟩
  rw [← hwa] at k1 g1 b1 TB1
  rw [← hwa]
  obtain ⟨g, hg⟩ : ∃ g, g = w.heap.size := ⟨_, rfl⟩
  have hgw : g ≤ w.heap.size := by omega
  have hwg : w.heap.size ≤ g := by omega
  rw [← hg] at k1 g1
  rw [← hg]
  clear hwa hg
  go_region_held3 (fun w' => w'.cell? ⟨g, 0, none⟩ = some (.int .i64 k) ∧ w'.cell? ⟨g, 1, none⟩ = some (.slice ao L.length cap)) (first | exact k1 | exact k2 | exact k3)
    (first
      | (go_at_call 25; (with_reducible refine (PM.out _ TB1.out.drew.shp).mono ?_); rintro e wb ⟨aq, cq, rfl, hbb, hcq⟩; have k2 := two_keep hbb g1 k1; have g2 := Nat.lt_of_lt_of_le g1 hbb.size; have TB2 := Lib.hid (TB1.out.drew.go hbb))
      | (go_at_call 23; (with_reducible refine (MK.out _ TB2.out.shp).mono ?_); rintro e wc ⟨rfl, hbc⟩; have k3 := two_keep hbc g2 k2))
  have rd := b1.drew
  have hB2 := rd.trans (hbb.mono rd.size)
  have hB3 := hB2.trans (hbc.mono hB2.size)
  have TB3 := Lib.hid (TB2.out.go hbc)
  have g3 := Nat.lt_of_lt_of_le g2 hbc.size
  clear rd hB2 hbb hbc b1 g1 k1 k2 g2 hcq TB1 TB2 hqd hgw hwg
  have X0 := (Below.refl wc.heap.size wc).alloc (o := .cells #[.pointer none, .slice none 0 0] 61) (Nat.le_refl _)
  have k4 := two_keep X0 g3 k3
  have WS := Lib.hid (bld_write wc.heap.size [] MS (wc.alloc (.cells #[.pointer none, .slice none 0 0] 61)) (Bld.new wc) (by rw [hss]; decide))
  go_wp2_with (go_at_call 32; (with_reducible refine WS.out.mono ?_); rintro e wd ⟨rfl, BD, hbl⟩; have k5 := two_keep hbl g3 k4; have X1 := X0.trans hbl)
  rw [List.nil_append, HSD.out] at BD
  have HBD := Lib.hid BD
  clear k3 k4 X0 hbl BD WS
  go_loopw [33] (fun i wv => ∃ t : Nat, t ≤ L.length ∧ i = .int .i64 t ∧ Bld wv wc.heap.size (M ++ itemsL (L.take t)) ∧ Below wc.heap.size wc wv ∧ ∀ p, p < t → ∀ c r, L[p]? = some (c, r) → primE c r = 0) (fun i _ => L.length - (intOf i).toNat)
  case atStart => exact ⟨0, Nat.zero_le _, rfl, by simpa [itemsL] using HBD.out, X1, fun q hq => absurd hq (Nat.not_lt_zero _)⟩
  case round =>
    clear X1 k5
    obtain ⟨t, ht, rfl, BD, X1, hpe⟩ := hrel
    have HPE := Lib.hid hpe
    have HBD1 := Lib.hid BD
    clear hpe BD
    have hBv := hB3.trans (X1.mono hB3.size)
    by_cases htl : t < L.length
    · obtain ⟨be, oe, z, r, hz, rfl, hbe, d1, d2, hrs⟩ := HRD.out t htl
      replace d1 := (hBv.cell (p := ⟨be, oe + t * 2, none⟩) hbe).trans d1
      replace d2 := (hBv.cell (p := ⟨be, oe + t * 2 + 1, none⟩) hbe).trans d2
      have FZ := Lib.hid hz
      have R0 := (Below.refl wr.heap.size wr).alloc (o := .cells #[.int .i64 z, .string r] 48) (Nat.le_refl _)
      have X2 := X1.alloc (o := .cells #[.int .i64 z, .string r] 48) X1.size
      have PE0 := yprim_any z r (wr.alloc (.cells #[.int .i64 z, .string r] 48)) hrs ((TB3.out.go X1).go R0).lay
      have hst := items_step hz
      have hps := primS_le z r
      obtain ⟨s, hs⟩ : ∃ s, s = primS z r := ⟨_, rfl⟩
      obtain ⟨ee, hee⟩ : ∃ e, e = primE z r := ⟨_, rfl⟩
      rw [← hs] at PE0 hst hps
      rw [← hee] at PE0
      have PE := Lib.hid PE0
      have HST := Lib.hid hst
      have HEE := Lib.hid hee
      have hlen : Hid ((M ++ itemsL (L.take t)).length + s.size ≤ 140737488355328) := by
        show _ ≤ _
        rw [List.length_append, hMl]
        have := hIL.out t
        omega
      have HBD2 := Lib.hid (HBD1.out.go R0)
      obtain ⟨l, hl⟩ : ∃ l, l = M ++ itemsL (L.take t) := ⟨_, rfl⟩
      rw [← hl] at hlen HBD2
      have HL := Lib.hid hl
      clear hz hst hs hee PE0 hBv hrs HBD1 HBD R0 hl
      by_cases h0 : ee = 0
      · subst h0
        go_wp2_with (first
          | (go_at_call 52; (with_reducible refine PE.out.mono ?_); rintro e wn ⟨rfl, hb⟩; have WS := Lib.hid (bld_write wc.heap.size l s wn (HBD2.out.go hb) hlen.out); have X3 := X2.trans (hb.mono X2.size))
          | (go_at_call 32; (with_reducible refine WS.out.mono ?_); rintro e wm ⟨rfl, BD3, hb3⟩; have HBD3 := Lib.hid BD3; have X4 := X3.trans hb3))
        go_roundw
        case rel =>
          refine ⟨t + 1, by omega, by go_num, ?_, X4, fun p hpt c' r' he => ?_⟩
          · rw [HST.out, ← List.append_assoc, ← HL.out]; exact HBD3.out
          · by_cases hqj : p < t
            · exact HPE.out p hqj c' r' he
            · obtain rfl : p = t := by omega
              rw [FZ.out] at he
              cases he
              exact HEE.out.symm
        case measure => simp [intOf]; omega
      · have hen : (ee != 0) = true := by simpa using h0
        have hit := items_at FZ.out HPE.out (by rw [← HEE.out]; exact h0)
        rw [← HEE.out] at hit
        have r2 : txtGS k L = ⟨#[]⟩ := by unfold txtGS; rw [hit, if_pos h0]
        have HR := Lib.hid (And.intro (HS.out.trans r2) (HE.out.trans hit))
        clear r2 hit h0
        go_wp2_with (go_at_call 52; (with_reducible refine PE.out.mono ?_); rintro e wn ⟨rfl, hb⟩; have X3 := X2.trans (hb.mono X2.size))
        go_ret2
        exact ⟨by rw [HR.out.1, HR.out.2]; rfl, hB3.trans (X3.mono hB3.size)⟩
    · obtain rfl : t = L.length := by omega
      have hit := items_zero (fun p c r hp => HPE.out p (at_lt hp) c r hp)
      have r2 : txtGS k L = strL (grpL (k, L)) := by unfold txtGS; rw [hit, if_neg (by decide)]
      have ST0 := bld_string wc.heap.size _ wr HBD1.out
      rw [List.take_length, ← HGL.out, ← r2, ← HS.out] at ST0
      have ST := Lib.hid ST0
      have HR := Lib.hid (HE.out.trans hit)
      clear r2 hit ST0 HBD HBD1
      go_wp2_with (go_at_call 33; (with_reducible refine ST.out.mono ?_); rintro e wn ⟨rfl, hb⟩)
      go_ret2
      exact ⟨by rw [HR.out]; rfl, hBv.trans (hb.mono hB3.size)⟩

theorem txtGS_data {k : Int} {L : List Prim} (h : itemsE L = 0) : (txtGS k L).data.toList = grpL (k, L) := by unfold txtGS; rw [h, if_neg (by decide)]; rfl
theorem txtGS_size (k : Int) (L : List Prim) : (txtGS k L).size ≤ 4 + 836 * L.length := by
  unfold txtGS
  by_cases h : itemsE L ≠ 0
  · rw [if_pos h]; exact Nat.zero_le _
  · rw [if_neg h]
    show (grpL (k, L)).toArray.size ≤ _
    have := items_le L
    simp only [List.size_toArray, grpL, List.length_append, markL_length]
    omega
theorem grps_snoc {G : List Grp} {j : Nat} {k : Int} {L : List Prim} (h : G[j]? = some (k, L)) : grpsL (G.take (j + 1)) = grpsL (G.take j) ++ grpL (k, L) := by rw [grps_step h]; rfl
theorem grpsE_first {G : List Grp} {j : Nat} {k : Int} {L : List Prim} (h : ¬ 1024 < cntG G) (hf : allF G = true) (hj : G[j]? = some (k, L)) (hp : ∀ p, p < j → ∀ k L, G[p]? = some (k, L) → itemsE L = 0) (hn : itemsE L ≠ 0) : encGS G = ⟨#[]⟩ ∧ encGE G = itemsE L := by
  have e2 := grpsE_at hj hp hn
  unfold encGS encGE; simp [h, hf, e2, hn]
set_option maxHeartbeats 1600000 in
set_option maxRecDepth 100000 in
theorem enc_any (vi : Value) (G : List Grp) (w : World) (hG : GroupsAt w.heap.size w vi G) (hlen : G.length ≤ 1000000) (hcnt : cntG G ≤ 1000000) (hT : Tbs w) : Calls Tryd.prog 12 #[vi] w fun e w' => e = .returned (.tuple #[.string (encGS G), .int .i64 (encGE G)]) ∧ Below w.heap.size w w' := by
  have EX0 := exceeds_any vi G w hG hcnt
  obtain ⟨ao, cap, rfl, hlc, hcm, hrd⟩ := hG
  unfold maxLen at hcm
  have HRD := Lib.hid hrd
  obtain ⟨S, hS⟩ : ∃ S, S = encGS G := ⟨_, rfl⟩
  obtain ⟨E, hE⟩ : ∃ E, E = encGE G := ⟨_, rfl⟩
  rw [← hS, ← hE]
  have HS := Lib.hid hS
  have HE := Lib.hid hE
  have TB0 := Lib.hid hT
  by_cases hov : 1024 < cntG G
  · obtain ⟨r1, r2⟩ := enc_over hov
    have HR := Lib.hid (And.intro (HS.out.trans r1) (HE.out.trans r2))
    rw [decide_eq_true hov] at EX0
    have EX := Lib.hid EX0
    clear r1 r2 hov EX0 hS hE hrd hT hcnt
    go_enter Tryd.func12, Tryd.ntmps12
    go_wp2_with (go_at_call 29; (with_reducible refine EX.out.mono ?_); rintro e w1 ⟨rfl, hb1⟩)
    go_ret2
    exact ⟨by rw [HR.out.1, HR.out.2]; rfl, hb1⟩
  · have HN := Lib.hid hov
    have hcn : cntG G ≤ 1024 := by omega
    have HCN := Lib.hid hcn
    rw [decide_eq_false hov] at EX0
    have EX := Lib.hid EX0
    clear hov EX0 hS hE hrd hT hcnt hcn
    go_enter Tryd.func12, Tryd.ntmps12
    go_wp2_with (go_at_call 29; (with_reducible refine EX.out.mono ?_); rintro e w1 ⟨rfl, hb1⟩)
    go_loopw [15] (fun i wr => ∃ j : Nat, j ≤ G.length ∧ i = .int .i64 j ∧ Below w.heap.size w wr ∧ ∀ q, q < j → ∀ k L, G[q]? = some (k, L) → follL k L = true) (fun i _ => G.length - (intOf i).toNat)
    case atStart => exact ⟨0, Nat.zero_le _, rfl, hb1, fun q hq => absurd hq (Nat.not_lt_zero _)⟩
    case round =>
      clear hb1 w1 EX
      obtain ⟨j, hj, rfl, hB, hag⟩ := hrel
      have HA := Lib.hid hag
      clear hag
      by_cases hlt : j < G.length
      · obtain ⟨b, off, k, L, vj, hj', rfl, hbw, ce1, ce2, hp⟩ := HRD.out j hlt
        replace ce1 := (hB.cell (p := ⟨b, off + j * 2, none⟩) hbw).trans ce1
        replace ce2 := (hB.cell (p := ⟨b, off + j * 2 + 1, none⟩) hbw).trans ce2
        have hci := cnt_item hj'
        have hcl := HCN.out
        have hll : L.length ≤ 1000000 := by omega
        have hp2 := hp
        obtain ⟨ap, cp, rfl, hlp, hcp, _⟩ := hp2
        have rb := hB.alloc (o := .cells #[.int .i64 k, .slice ap L.length cp] 28) hB.size
        have FO := Lib.hid (follows_any k _ L (wr.alloc (.cells #[.int .i64 k, .slice ap L.length cp] 28)) (hp.same rb.block rb.size) hll (TB0.out.go rb).shp)
        have FJ := Lib.hid hj'
        obtain ⟨f, hf⟩ : ∃ f, f = follL k L := ⟨_, rfl⟩
        rw [← hf] at FO
        have HF := Lib.hid hf
        clear hj' hci hcl hll hf hp hB
        by_cases hft : f = true
        · subst hft
          go_wp2_with (go_at_call 30; (with_reducible refine (FO.out).mono ?_); rintro e wn ⟨rfl, hb⟩)
          go_roundw
          case rel =>
            refine ⟨j + 1, by omega, by go_num, rb.trans (hb.mono rb.size), fun q hq k' L' he => ?_⟩
            by_cases hqj : q < j
            · exact HA.out q hqj k' L' he
            · obtain rfl : q = j := by omega
              rw [FJ.out] at he
              cases he
              exact HF.out.symm
          case measure => simp [intOf]; omega
        · have hff : f = false := by simpa using hft
          obtain ⟨r1, r2⟩ := enc_stray HN.out FJ.out (HF.out.symm.trans hff)
          have HR := Lib.hid (And.intro (HS.out.trans r1) (HE.out.trans r2))
          subst hff
          clear r1 r2 hft
          go_wp2_with (go_at_call 30; (with_reducible refine (FO.out).mono ?_); rintro e wn ⟨rfl, hb⟩)
          go_ret2
          exact ⟨by rw [HR.out.1, HR.out.2]; rfl, rb.trans (hb.mono rb.size)⟩
      · obtain rfl : j = G.length := by omega
        have HALL := Lib.hid (allF_of fun j k L hj he => HA.out j hj k L he)
        have X0 := (Below.refl wr.heap.size wr).alloc (o := .cells #[.pointer none, .slice none 0 0] 61) (Nat.le_refl _)
        have HBD := Lib.hid (Bld.new wr)
        obtain ⟨wq, hwq⟩ : ∃ wq, wq = wr := ⟨_, rfl⟩
        rw [← hwq] at hB X0 HBD
        rw [← hwq]
        clear hwq
        go_wp2
        go_loopw [25] (fun i wv => ∃ j : Nat, j ≤ G.length ∧ i = .int .i64 j ∧ Bld wv wq.heap.size (grpsL (G.take j)) ∧ Below wq.heap.size wq wv ∧ ∀ p, p < j → ∀ k L, G[p]? = some (k, L) → itemsE L = 0) (fun i _ => G.length - (intOf i).toNat)
        case atStart => exact ⟨0, Nat.zero_le _, rfl, HBD.out, X0, fun q hq => absurd hq (Nat.not_lt_zero _)⟩
        case round =>
          clear X0 HBD
          obtain ⟨j, hj, rfl, BD, X1, hze⟩ := hrel
          have HZE := Lib.hid hze
          have HBD1 := Lib.hid BD
          clear hze BD
          have hBv := hB.trans (X1.mono hB.size)
          by_cases hlt : j < G.length
          · obtain ⟨b, off, k, L, vj, hj', rfl, hbw, ce1, ce2, hp⟩ := HRD.out j hlt
            replace ce1 := (hBv.cell (p := ⟨b, off + j * 2, none⟩) hbw).trans ce1
            replace ce2 := (hBv.cell (p := ⟨b, off + j * 2 + 1, none⟩) hbw).trans ce2
            have FJ := Lib.hid hj'
            have hci := cnt_item hj'
            have hcl := HCN.out
            have hll : L.length ≤ 1024 := by omega
            have hfo : follL k L = true := HA.out j hlt k L hj'
            have hp2 := hp
            obtain ⟨ap, cp, rfl, hlp, hcp, _⟩ := hp2
            have R0 := (Below.refl wr.heap.size wr).alloc (o := .cells #[.int .i64 k, .slice ap L.length cp] 28) (Nat.le_refl _)
            have X2 := X1.alloc (o := .cells #[.int .i64 k, .slice ap L.length cp] 28) X1.size
            have rb := hBv.alloc (o := .cells #[.int .i64 k, .slice ap L.length cp] 28) hBv.size
            have TX0 := textOf_any k _ L (wr.alloc (.cells #[.int .i64 k, .slice ap L.length cp] 28)) (hp.same rb.block rb.size) hll hfo (TB0.out.go rb)
            have hsz := txtGS_size k L
            have hgz := grps_le (G.take j)
            have hgc := cnt_le G j
            have hgt : (G.take j).length ≤ G.length := by rw [List.length_take]; exact Nat.min_le_right _ _
            have hlen' : Hid ((grpsL (G.take j)).length + (txtGS k L).size ≤ 140737488355328) := by show _ ≤ _; omega
            have HGS := Lib.hid (grps_snoc hj')
            have HTD := Lib.hid (fun h => txtGS_data (k := k) (L := L) h)
            obtain ⟨s, hs⟩ : ∃ s, s = txtGS k L := ⟨_, rfl⟩
            obtain ⟨ee, hee⟩ : ∃ e, e = itemsE L := ⟨_, rfl⟩
            rw [← hs] at TX0 hlen' HTD
            rw [← hee] at TX0 HTD
            have TX := Lib.hid TX0
            have HEE := Lib.hid hee
            have HBD2 := Lib.hid (HBD1.out.go R0)
            obtain ⟨l, hl⟩ : ∃ l, l = grpsL (G.take j) := ⟨_, rfl⟩
            rw [← hl] at hlen' HBD2
            have HL := Lib.hid hl
            clear hj' hci hcl hfo hp hsz hgz hgc hgt hs hee TX0 hl HBD1 R0 hBv
            by_cases h0 : ee = 0
            · subst h0
              go_wp2_with (first
                | (go_at_call 31; (with_reducible refine TX.out.mono ?_); rintro e wn ⟨rfl, hb⟩; have WS := Lib.hid (bld_write wq.heap.size l s wn (HBD2.out.go hb) hlen'.out); have X3 := X2.trans (hb.mono X2.size))
                | (go_at_call 32; (with_reducible refine WS.out.mono ?_); rintro e wm ⟨rfl, BD3, hb3⟩; have HBD3 := Lib.hid BD3; have X4 := X3.trans hb3))
              go_roundw
              case rel =>
                refine ⟨j + 1, by omega, by go_num, ?_, X4, fun p hpt c' r' he => ?_⟩
                · rw [HGS.out, ← HL.out, ← HTD.out (by first | rfl | trivial)]; exact HBD3.out
                · by_cases hqj : p < j
                  · exact HZE.out p hqj c' r' he
                  · obtain rfl : p = j := by omega
                    rw [FJ.out] at he
                    cases he
                    exact HEE.out.symm
              case measure => simp [intOf]; omega
            · have hen : (ee != 0) = true := by simpa using h0
              obtain ⟨r1, r2⟩ := grpsE_first HN.out HALL.out FJ.out HZE.out (by rw [← HEE.out]; exact h0)
              rw [← HEE.out] at r2
              have HR := Lib.hid (And.intro (HS.out.trans r1) (HE.out.trans r2))
              clear r1 r2 h0
              go_wp2_with (go_at_call 31; (with_reducible refine TX.out.mono ?_); rintro e wn ⟨rfl, hb⟩)
              go_ret2
              exact ⟨by rw [HR.out.1, HR.out.2]; rfl, rb.trans (hb.mono rb.size)⟩
          · obtain rfl : j = G.length := by omega
            obtain ⟨r1, r2⟩ := enc_good HN.out HALL.out (fun p k L he => HZE.out p (at_lt he) k L he)
            have ST0 := bld_string wq.heap.size _ wr HBD1.out
            rw [List.take_length, ← r1, ← HS.out] at ST0
            have ST := Lib.hid ST0
            have HR := Lib.hid (HE.out.trans r2)
            clear r1 r2 ST0 HBD1
            go_wp2_with (go_at_call 33; (with_reducible refine ST.out.mono ?_); rintro e wn ⟨rfl, hb⟩)
            go_ret2
            exact ⟨by rw [HR.out]; rfl, hBv.trans (hb.mono hB.size)⟩

set_option maxRecDepth 100000 in
theorem binG_any (vi : Value) (G : List Grp) (w : World) (hG : GroupsAt w.heap.size w vi G) (hlen : G.length ≤ 1000000) (hcnt : cntG G ≤ 1000000) (hT : Tbs w) : Calls Tryd.prog 14 #[vi] w fun e w' => e = .returned (.tuple #[.string (binGS G), .int .i64 (binGE G)]) ∧ Below w.heap.size w w' := by
  have EN0 := enc_any vi G w hG hlen hcnt hT
  obtain ⟨ao, cap, rfl, _, _, _⟩ := hG
  have hsz := encGS_size G
  have RB0 := fun (wx : World) (hx : Tbs wx) => ybinary_any (encGS G) wx (by unfold maxLen; omega) hx.tab.lt hx.tab
  have TB0 := Lib.hid hT
  unfold binGS binGE
  obtain ⟨S, hS⟩ : ∃ S, S = encGS G := ⟨_, rfl⟩
  obtain ⟨E, hE⟩ : ∃ E, E = encGE G := ⟨_, rfl⟩
  rw [← hS, ← hE] at EN0
  rw [← hS] at RB0
  rw [← hS, ← hE]
  obtain ⟨D, hD⟩ : ∃ D, D = decFS S.data.toList := ⟨_, rfl⟩
  obtain ⟨F, hF⟩ : ∃ D, D = decFE S.data.toList := ⟨_, rfl⟩
  rw [← hD, ← hF] at RB0
  rw [← hD, ← hF]
  have EN := Lib.hid EN0
  have RB := Lib.hid RB0
  clear EN0 RB0 hS hE hD hF hsz hlen hcnt hT
  by_cases h0 : E = 0
  · subst h0
    rw [if_neg (by decide), if_neg (by decide)]
    go_enter Tryd.func14, Tryd.ntmps14
    go_wp2_with (first
      | (go_at_call 12; (with_reducible refine (EN.out).mono ?_); rintro e w1 ⟨rfl, hb1⟩)
      | (go_at_call 36; (with_reducible refine (RB.out _ (TB0.out.go hb1)).mono ?_); rintro e w2 ⟨rfl, hb2⟩))
    go_ret2
    exact ⟨rfl, hb1.trans (hb2.mono hb1.size)⟩
  · have hen : (E != 0) = true := by simpa using h0
    rw [if_pos h0, if_pos h0]
    clear h0
    go_enter Tryd.func14, Tryd.ntmps14
    go_wp2_with (first
      | (go_at_call 12; (with_reducible refine (EN.out).mono ?_); rintro e w1 ⟨rfl, hb1⟩))
    go_ret2
    exact ⟨rfl, hb1⟩

end Go.Proofs.YtdmgmfdmakheiaaDoor
