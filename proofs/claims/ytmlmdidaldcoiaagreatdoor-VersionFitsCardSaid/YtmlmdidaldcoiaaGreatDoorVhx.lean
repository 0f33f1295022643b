/- Contracts of the library in the numbers of this program: theorems proved once over any program; here the kernel compares the bodies and types. -/
import Derived.Test.YtmlmdidaldcoiaaGreatDoorProg
import Derived.Test.YtmlmdidaldcoiaaGreatDoorRows
import Derived.Test.YtmlmdidaldcoiaaGreatDoorVpr
import Derived.Shelf.Strings.Repeat
import Derived.Shelf.Strconv.ErrVarAll
import Derived.Shelf.Strconv.ToError
namespace Go.Proofs.YtmlmdidaldcoiaaGreatDoor
open Go.Shelf Go.RowKit Go.Lib
set_option linter.unusedVariables false

def vren : Go.Shelf.Ren := ⟨fun | 99 => 92 | 105 => 60 | 129 => 142 | 165 => 93 | 166 => 94 | 169 => 96 | 170 => 95 | 171 => 77 | 205 => 170 | 206 => 120 | 212 => 91 | 240 => 121 | 241 => 122 | 243 => 112 | 245 => 109 | 246 => 90 | 263 => 118 | 264 => 119 | 276 => 146 | 277 => 147 | 279 => 137 | 280 => 138 | 281 => 139 | 282 => 140 | 283 => 114 | 284 => 115 | 285 => 116 | 286 => 117 | 316 => 169 | 317 => 141 | 318 => 143 | 319 => 144 | 320 => 145 | 337 => 171 | 338 => 172 | n => n, fun | 0 => 0 | 2 => 2 | 3 => 3 | 4 => 4 | 5 => 5 | 9 => 9 | 20 => 20 | 37 => 54 | 46 => 92 | 51 => 137 | 53 => 106 | 70 => 120 | 72 => 122 | 75 => 95 | 76 => 124 | 80 => 127 | 109 => 117 | 127 => 142 | 143 => 234 | 145 => 236 | 146 => 138 | 148 => 140 | 164 => 188 | 167 => 177 | 168 => 180 | 171 => 132 | 173 => 135 | 210 => 218 | 212 => 184 | 213 => 185 | 232 => 237 | 233 => 238 | n => n, fun | 15 => 3 | 16 => 4 | 17 => 2 | 18 => 7 | 19 => 8 | n => n⟩
theorem vlays105 : Go.Proofs.Lays.n105 Tryz.prog vren := {
 mixed := by kernel_rfl
 f99 := Tryz.func92.trans (congrArg some (by kernel_rfl))
 f105 := Tryz.func60.trans (congrArg some (by kernel_rfl))
 f165 := Tryz.func93.trans (congrArg some (by kernel_rfl))
 f166 := Tryz.func94.trans (congrArg some (by kernel_rfl))
 f169 := Tryz.func96.trans (congrArg some (by kernel_rfl))
 f170 := Tryz.func95.trans (congrArg some (by kernel_rfl))
 f206 := Tryz.func120.trans (congrArg some (by kernel_rfl))
 f212 := Tryz.func91.trans (congrArg some (by kernel_rfl))
 f240 := Tryz.func121.trans (congrArg some (by kernel_rfl))
 f241 := Tryz.func122.trans (congrArg some (by kernel_rfl))
 f263 := Tryz.func118.trans (congrArg some (by kernel_rfl))
 f264 := Tryz.func119.trans (congrArg some (by kernel_rfl))
 f276 := Tryz.func146.trans (congrArg some (by kernel_rfl))
 f277 := Tryz.func147.trans (congrArg some (by kernel_rfl))
 t0 := Tryz.underlying0
 a0 := Tryz.isAgg0
 z0 := Tryz.sizeOf0
 v0 := Tryz.zeroValue0
 t3 := Tryz.underlying3
 a3 := Tryz.isAgg3
 z3 := Tryz.sizeOf3
 v3 := Tryz.zeroValue3
 t4 := Tryz.underlying4
 a4 := Tryz.isAgg4
 z4 := Tryz.sizeOf4
 v4 := Tryz.zeroValue4
 t5 := Tryz.underlying5
 a5 := Tryz.isAgg5
 z5 := Tryz.sizeOf5
 v5 := Tryz.zeroValue5
 t9 := Tryz.underlying9
 a9 := Tryz.isAgg9
 z9 := Tryz.sizeOf9
 v9 := Tryz.zeroValue9
 t20 := Tryz.underlying20
 a20 := Tryz.isAgg20
 z20 := Tryz.sizeOf20
 v20 := Tryz.zeroValue20
 t37 := Tryz.underlying54
 a37 := Tryz.isAgg54
 z37 := Tryz.sizeOf54
 v37 := Tryz.zeroValue54
 t46 := Tryz.underlying92
 a46 := Tryz.isAgg92
 z46 := Tryz.sizeOf92
 v46 := Tryz.zeroValue92
 t51 := Tryz.underlying137
 a51 := Tryz.isAgg137
 z51 := Tryz.sizeOf137
 v51 := Tryz.zeroValue137
 t53 := Tryz.underlying106
 a53 := Tryz.isAgg106
 z53 := Tryz.sizeOf106
 v53 := Tryz.zeroValue106
 t70 := Tryz.underlying120
 a70 := Tryz.isAgg120
 z70 := Tryz.sizeOf120
 v70 := Tryz.zeroValue120
 t72 := Tryz.underlying122
 a72 := Tryz.isAgg122
 z72 := Tryz.sizeOf122
 v72 := Tryz.zeroValue122
 t75 := Tryz.underlying95
 a75 := Tryz.isAgg95
 z75 := Tryz.sizeOf95
 v75 := Tryz.zeroValue95
 t76 := Tryz.underlying124
 a76 := Tryz.isAgg124
 z76 := Tryz.sizeOf124
 v76 := Tryz.zeroValue124
 t109 := Tryz.underlying117
 a109 := Tryz.isAgg117
 z109 := Tryz.sizeOf117
 v109 := Tryz.zeroValue117
 t127 := Tryz.underlying142
 a127 := Tryz.isAgg142
 z127 := Tryz.sizeOf142
 v127 := Tryz.zeroValue142
 t146 := Tryz.underlying138
 a146 := Tryz.isAgg138
 z146 := Tryz.sizeOf138
 v146 := Tryz.zeroValue138
 t148 := Tryz.underlying140
 a148 := Tryz.isAgg140
 z148 := Tryz.sizeOf140
 v148 := Tryz.zeroValue140
 t164 := Tryz.underlying188
 a164 := Tryz.isAgg188
 z164 := Tryz.sizeOf188
 v164 := Tryz.zeroValue188
}
theorem vextra : Builder.Extra Tryz.prog vren := {
 sizeBuilder := by kernel_rfl
 liesBuilder := by kernel_rfl
 t5 := Tryz.underlying5
 a5 := Tryz.isAgg5
 z5 := Tryz.sizeOf5
 v5 := Tryz.zeroValue5
 infoByte := by kernel_rfl
 cellsByte := by kernel_rfl
 sizeByte := by kernel_rfl
 neB5 := by decide
}
end Go.Proofs.YtmlmdidaldcoiaaGreatDoor
/- Hexadecimal digits: what the library writes. -/
namespace Go.Proofs.YtmlmdidaldcoiaaGreatDoor
open Go Go.Maps Go.ChangeShapes Go.WideShapes Go.ChangeAt Go.RowKit
set_option linter.unusedVariables false
set_option linter.unusedSimpArgs false

theorem vhL_cons : ∀ (j n : Nat), vhL (j + 1) n = vhC (n / 16 ^ j % 16) :: vhL j n
 | 0, n => by rw [Nat.pow_zero, Nat.div_one]; rfl
 | j + 1, n => by
  rw [vhL, vhL_cons j (n / 16), Nat.div_div_eq_div_mul, show 16 * 16 ^ j = 16 ^ (j + 1) by rw [Nat.pow_succ, Nat.mul_comm]]
  rfl
theorem vhL_pad : ∀ (k J n : Nat), n < 16 ^ J → vhL (k + J) n = List.replicate k 48 ++ vhL J n
 | 0, J, n, _ => by rw [Nat.zero_add]; rfl
 | k + 1, J, n, h => by
  have h2 : n < 16 ^ (k + J) := Nat.lt_of_lt_of_le h (Nat.pow_le_pow_right (by decide) (by omega))
  rw [show k + 1 + J = (k + J) + 1 by omega, vhL_cons, Nat.div_eq_of_lt h2, vhL_pad k J n h]
  rfl
def DB (w : World) : Prop := w.cell? ⟨8, 15, none⟩ = some (.int .u8 4)
theorem DB.below {w w' : World} (h : DB w) (hb : Below w.heap.size w w') : DB w' := (hb.cell (p := ⟨_, 15, none⟩) (cell_lt h)).trans h
set_option maxRecDepth 100000 in
theorem tz64_16 (w : World) (h : DB w) : Calls Tryz.prog 172 #[.int .u64 16] w fun e w' => e = .returned (.int .i64 4) ∧ w = w' := by
 have hc : w.cell? ⟨8, 15, none⟩ = some (.int .u8 4) := h
 have q0 : IntKind.u64.wrap (-16) = 18446744073709551600 := by decide
 have q1 : bits .and .u64 16 18446744073709551600 = 16 := by decide
 have q2 : IntKind.u64.wrap 4573923408821661840 = 4573923408821661840 := by decide
 go_enter Tryz.func172, Tryz.ntmps172
 go_wp2
 go_ret
 exact ⟨rfl, rfl⟩
set_option maxRecDepth 100000 in
theorem tz_16 (w : World) (h : DB w) : Calls Tryz.prog 145 #[.int .u64 16] w fun e w' => e = .returned (.int .i64 4) ∧ w = w' := by
 have T := Lib.hid (tz64_16 w h)
 go_enter Tryz.func145, Tryz.ntmps145
 go_wp2_with (go_at_call 172; (with_reducible refine (T.out).mono ?_); rintro e w1 ⟨rfl, rfl⟩)
 go_ret
 exact ⟨rfl, rfl⟩
set_option maxRecDepth 100000 in
theorem ispow_16 (w : World) : Calls Tryz.prog 144 #[.int .i64 16] w fun e w' => e = .returned (.bool true) ∧ w = w' := by
 have q1 : bits .and .i64 16 15 = 0 := by decide
 go_enter Tryz.func144, Tryz.ntmps144
 go_wp2
 go_ret
 exact ⟨rfl, rfl⟩
theorem hexs_get (m : Nat) (h16 : m < 16) (h : m < ByteArray.size { data := #[48, 49, 50, 51, 52, 53, 54, 55, 56, 57, 97, 98, 99, 100, 101, 102, 103, 104, 105, 106, 107, 108, 109, 110, 111, 112, 113, 114, 115, 116, 117, 118, 119, 120, 121, 122] }) : ({ data := #[48, 49, 50, 51, 52, 53, 54, 55, 56, 57, 97, 98, 99, 100, 101, 102, 103, 104, 105, 106, 107, 108, 109, 110, 111, 112, 113, 114, 115, 116, 117, 118, 119, 120, 121, 122] } : ByteArray)[m]'h = vhC m := by
 have all : ∀ m : Fin 16, ∀ h, ({ data := #[48, 49, 50, 51, 52, 53, 54, 55, 56, 57, 97, 98, 99, 100, 101, 102, 103, 104, 105, 106, 107, 108, 109, 110, 111, 112, 113, 114, 115, 116, 117, 118, 119, 120, 121, 122] } : ByteArray)[m.val]'h = vhC m.val := by decide
 exact all ⟨m, h16⟩ h
theorem u64_and15 (n : Nat) : bits .and .u64 (n : Int) 15 = ((n % 16 : Nat) : Int) := by
 have h15 : (BitVec.ofInt 64 15).toNat = 2 ^ 4 - 1 := by decide
 have key : (BitVec.ofInt 64 (n : Int) &&& BitVec.ofInt 64 15).toNat = ((n : Int) % ((2 ^ 64 : Nat) : Int)).toNat % 2 ^ 4 := by
  rw [BitVec.toNat_and, BitVec.toNat_ofInt, h15, Nat.and_two_pow_sub_one_eq_mod]
 show IntKind.u64.wrap ((BitVec.ofInt 64 (n : Int) &&& BitVec.ofInt 64 15).toNat : Nat) = _
 rw [key, IntKind.wrap_u64]
 omega
theorem hex_more {n j : Nat} (hn : n < 16777216) (h : 16 ≤ n / 16 ^ j) : 16 ^ (j + 1) ≤ n ∧ j + 1 ≤ 5 := by
 have h1 : 16 * 16 ^ j ≤ n := (Nat.le_div_iff_mul_le (Nat.pow_pos (by decide))).1 h
 have h2 : 16 ^ (j + 1) ≤ n := by rw [Nat.pow_succ, Nat.mul_comm]; exact h1
 refine ⟨h2, ?_⟩
 rcases Nat.lt_or_ge (j + 1) 6 with h3 | h3
 ·omega
 ·have : 16 ^ 6 ≤ 16 ^ (j + 1) := Nat.pow_le_pow_right (by decide) h3
  have e : 16 ^ 6 = 16777216 := by decide
  omega
theorem hex_done {n j : Nat} (h : ¬ 16 ≤ n / 16 ^ j) : n < 16 ^ (j + 1) := by
 have := (Nat.div_lt_iff_lt_mul (x := n) (y := 16) (Nat.pow_pos (n := j) (by decide : 0 < 16))).1 (by omega)
 rwa [Nat.pow_succ, Nat.mul_comm]
theorem slice_from65 {P : Program} (t e : TypeId) (n g l : Nat) (li : Int) (hli : li = (l : Int)) (hl : l < n) (hu : P.underlying t = some (.array n e)) (hsz : ∀ w, (sizeOf e).run P w = .ok 1 w) (w : World) :
  (Instr.sliceAt t (.pointer (some ⟨g, 0, none⟩)) (some (.int .i64 li)) none none).run P w = .ok (.slice (some ⟨g, l, none⟩) (n - l) (n - l)) w := by
 subst hli
 have ha : P.arrayLen t = n := by simp [Program.arrayLen, hu]
 have he : P.elem t = e := by simp [Program.elem, hu]
 rw [run_sliceAt_array_l w t ⟨g, 0, none⟩ (by rw [ha, he]; exact hu) .i64 (l : Int) (by omega) (by rw [ha]; omega), he, hsz]
 have hne : ¬ n = l := by omega
 simp [Result.andThen, slicedAt, ha, hne, Addr.add_lit]
/-- The array while digits are written from its end: j of them so far. -/
def FbA (w : World) (g j n : Nat) : Prop := Arr w g 185 (List.replicate (65 - j) (.int .u8 0) ++ bytesV (vhL j n))
theorem FbA.step {w : World} {g j n : Nat} (h : FbA w g j n) (hj : j < 65) : FbA (w.setCell ⟨g, 64 - j, none⟩ (.int .u8 ((vhC (n / 16 ^ j % 16)).toNat : Int))) g (j + 1) n := by
 unfold FbA at h ⊢
 have := h.store (64 - j) (.int .u8 ((vhC (n / 16 ^ j % 16)).toNat : Int))
 rw [vhL_cons]
 have e : (List.replicate (65 - j) (Value.int .u8 0) ++ bytesV (vhL j n)).set (64 - j) (.int .u8 ((vhC (n / 16 ^ j % 16)).toNat : Int)) = List.replicate (65 - (j + 1)) (.int .u8 0) ++ bytesV (vhC (n / 16 ^ j % 16) :: vhL j n) := by
  rw [show 65 - j = (64 - j) + 1 by omega, List.replicate_succ', List.append_assoc, List.set_append_right _ _ (by simp), List.length_replicate, Nat.sub_self]
  show _ ++ (_ :: bytesV (vhL j n)) = _
  rw [show 65 - (j + 1) = 64 - j by omega]
  rfl
 rw [← e]
 exact this
/-- How a number is written: J digits, no more than needed. -/
def HexIs (n : Nat) (l : List UInt8) : Prop := ∃ J, 1 ≤ J ∧ l = vhL J n ∧ n < 16 ^ J ∧ (J = 1 ∨ 16 ^ (J - 1) ≤ n)
set_option maxHeartbeats 3200000 in
set_option maxRecDepth 100000 in
theorem fbits_any (n : Nat) (hn : n < 16777216) (w : World) (hT : DB w) : Calls Tryz.prog 117 #[.slice none 0 0, .int .u64 (n : Int), .int .i64 16, .bool false, .bool false] w fun e w' => (∃ l, HexIs n l ∧ e = .returned (.tuple #[.slice none 0 0, .string ⟨l.toArray⟩])) ∧ Below w.heap.size w w' := by
 have IP := Lib.hid (fun wx : World => ispow_16 wx)
 have z0 : Tryz.zeroCells185 = (List.replicate 65 (.int .u8 0)).toArray := by rfl
 have k0 : FbA (w.alloc (.cells Tryz.zeroCells185 185)) w.heap.size 0 n := by
  unfold FbA
  rw [z0]
  exact Arr.new _ _ _
 have b0 := (Below.refl w.heap.size w).alloc (o := .cells Tryz.zeroCells185 185) (Nat.le_refl _)
 have TZ := Lib.hid (tz_16 (w.alloc (.cells Tryz.zeroCells185 185)) (hT.below b0))
 have K0 := Lib.hid k0
 have B0 := Lib.hid b0
 clear k0 b0 hT z0
 go_enter Tryz.func117, Tryz.ntmps117
 go_upto_region 4 with fail
 generalize w.alloc _ = w1 at TZ K0 B0 ⊢
 have hg : w.heap.size ≤ w.heap.size := Nat.le_refl _
 obtain ⟨g, hgg⟩ : ∃ g, g = w.heap.size := ⟨_, rfl⟩
 rw [← hgg] at K0 ⊢
 have HG : Hid (w.heap.size ≤ g) := Lib.hid (by omega)
 clear hgg hg
 go_upto_region 11 with (first
  | (go_at_call 144; (with_reducible refine (IP.out _).mono ?_); rintro e w2 ⟨rfl, rfl⟩)
  | (go_at_call 145; (with_reducible refine (TZ.out).mono ?_); rintro e w2 ⟨rfl, rfl⟩))
 go_loopw [1, 13] (fun vu vi wr => ∃ (j q : Nat) (z : Int), vu = .int .u64 z ∧ vi = .int .i64 (q : Int) ∧ q + j = 65 ∧ j ≤ 5 ∧ Hid (z = ((n / 16 ^ j : Nat) : Int) ∧ (j = 0 ∨ 16 ^ j ≤ n)) ∧ FbA wr g j n ∧ Below w.heap.size w wr) (fun _ vi _ => (intOf vi).toNat)
 case atStart => exact ⟨0, 65, _, rfl, rfl, rfl, by omega, Lib.hid ⟨by rw [Nat.pow_zero, Nat.div_one], .inl rfl⟩, K0.out, B0.out⟩
 case round =>
  obtain ⟨j, q, z, rfl, rfl, hqj, hj5, hz, hA, hb⟩ := hrel
  obtain ⟨p, rfl⟩ : ∃ p, q = p + 1 := ⟨q - 1, by omega⟩
  have hc := hA.cellAt (j := p) (u := .int .u8 0) (by rw [List.getElem?_append_left (by simp; omega), List.getElem?_replicate, if_pos (by omega)])
  have hf := hA.free p
  have hAs := hA.step (by omega)
  rw [show 64 - j = p by omega] at hAs
  have hz1 : 0 ≤ z ∧ z < 16777216 := by
   have h1 := hz.out.1
   have h2 : n / 16 ^ j ≤ n := Nat.div_le_self _ _
   generalize n / 16 ^ j = d0 at h1 h2
   omega
  have hand : bits .and .u64 z 15 = ((n / 16 ^ j % 16 : Nat) : Int) := by rw [hz.out.1]; exact u64_and15 _
  have hd16 : n / 16 ^ j % 16 < 16 := Nat.mod_lt _ (by decide)
  have HS := Lib.hid (And.intro hAs (hb.grown (vgrown_set wr g p (.int .u8 ((vhC (n / 16 ^ j % 16)).toNat : Int))) hb.size (fun k hk => by cases hk; exact HG.out)))
  obtain ⟨d, hd⟩ : ∃ d, d = n / 16 ^ j % 16 := ⟨_, rfl⟩
  have e1 : ((p + 1 : Nat) : Int) - 1 = (p : Int) := by omega
  have hp65 : (p : Int) < 65 := by omega
  have hp0 : (0 : Int) ≤ (p : Int) := by omega
  have HQ := Lib.hid hqj
  have h16e : (16 ≤ z → 16 ≤ n / 16 ^ j) ∧ (¬ 16 ≤ z → ¬ 16 ≤ n / 16 ^ j ∧ (n / 16 ^ j % 16 : Nat) = z.toNat) := by
   have h1 := hz.out.1
   generalize n / 16 ^ j = d0 at h1
   omega
  by_cases h16 : 16 ≤ z
  ·have HN := Lib.hid (hex_more hn (h16e.1 h16))
   have HZ : Hid (z / 16 = ((n / 16 ^ (j + 1) : Nat) : Int)) := Lib.hid (by rw [hz.out.1, Nat.pow_succ, ← Nat.div_div_eq_div_mul, Int.natCast_ediv]; rfl)
   rw [← hd] at hand hd16 HS
   have ha := hexs_get d hd16
   clear hd hAs hA hb hz hqj hn h16e
   go_wp2
   go_roundw
   case rel => exact ⟨j + 1, p, _, rfl, by go_num, by have := HQ.out; omega, HN.out.2, Lib.hid ⟨HZ.out, .inr HN.out.1⟩, HS.out.1, HS.out.2⟩
   case measure => simp [intOf]
  ·obtain ⟨h17, hdz⟩ := h16e.2 h16
   rw [← hd] at hdz hd16 HS
   have hzd : z = (d : Int) := by omega
   subst hzd
   have ha := hexs_get d hd16
   have HL := Lib.hid (hex_done h17)
   have hcv := run_convert_bytes_back (P := Tryz.prog) (wr.setCell ⟨g, p, none⟩ (.int .u8 ((vhC d).toNat : Int))) 54 9 5 ⟨g, p, none⟩ (65 - p) (vhL (j + 1) n) Tryz.underlying54 Tryz.underlying5 Tryz.underlying9 (fun i hi => by
    rw [Addr.add_lit]
    rw [vhL_length] at hi
    refine HS.out.1.cellAt (j := p + i) ?_
    rw [List.getElem?_append_right (by simp; omega), List.length_replicate, show p + i - (65 - (j + 1)) = i by omega]
    unfold bytesV
    rw [List.getElem?_map, List.getElem?_eq_getElem (by rw [vhL_length]; exact hi)]
    rfl)
   rw [vhL_length] at hcv
   have hsl := slice_from65 (P := Tryz.prog) 185 5 65 g p (p : Int) rfl (by omega) Tryz.underlying185 Tryz.sizeOf5
   rw [show 65 - p = j + 1 by omega] at hcv hsl
   have HZ := Lib.hid hz.out.2
   clear hd hAs hA hb hz hqj hn h17 hdz
   go_wp2
   go_ret2
   exact ⟨⟨vhL (j + 1) n, ⟨j + 1, by omega, rfl, HL.out, by rcases HZ.out with rfl | h; exact .inl rfl; exact .inr h⟩, rfl⟩, HS.out.2⟩
set_option maxRecDepth 100000 in
theorem ifint_any (n : Nat) (hn : n < 16777216) (w : World) (hT : DB w) : Calls Tryz.prog 90 #[.int .i64 (n : Int), .int .i64 16] w fun e w' => (∃ l, HexIs n l ∧ e = .returned (.string ⟨l.toArray⟩)) ∧ Below w.heap.size w w' := by
 have FB := Lib.hid (fbits_any n hn w hT)
 have h0 : ¬ (n : Int) < 0 := by omega
 go_enter Tryz.func90, Tryz.ntmps90
 go_wp2_with (go_at_call 117; (with_reducible refine (FB.out).mono ?_); rintro e w1 ⟨⟨l, hl, rfl⟩, hb⟩)
 go_ret
 exact ⟨⟨l, hl, rfl⟩, hb⟩
set_option maxRecDepth 100000 in
theorem fint_any (n : Nat) (hn : n < 16777216) (w : World) (hT : DB w) : Calls Tryz.prog 59 #[.int .i64 (n : Int), .int .i64 16] w fun e w' => (∃ l, HexIs n l ∧ e = .returned (.string ⟨l.toArray⟩)) ∧ Below w.heap.size w w' := by
 have FB := Lib.hid (ifint_any n hn w hT)
 go_enter Tryz.func59, Tryz.ntmps59
 go_wp2_with (go_at_call 90; (with_reducible refine (FB.out).mono ?_); rintro e w1 ⟨⟨l, hl, rfl⟩, hb⟩)
 go_ret
 exact ⟨⟨l, hl, rfl⟩, hb⟩
theorem repeat48 (c : Nat) : Lib.repeatL [48] c = List.replicate c (48 : UInt8) := by
 induction c with
 | zero => rfl
 | succ c ih => rw [List.replicate_succ, ← ih]; rfl
theorem hexIs_pad {n k : Nat} {l : List UInt8} (h : HexIs n l) (hk : n < 16 ^ k) (h1 : 1 ≤ k) : l.length ≤ k ∧ vhL k n = List.replicate (k - l.length) 48 ++ l := by
 obtain ⟨J, hJ1, rfl, hJ2, hJ3⟩ := h
 have hJk : J ≤ k := by
  rcases hJ3 with rfl | h
  ·exact h1
  ·have : J - 1 < k := (Nat.pow_lt_pow_iff_right (by decide : 1 < 16)).1 (Nat.lt_of_le_of_lt h hk)
   omega
 rw [vhL_length]
 refine ⟨hJk, ?_⟩
 have := vhL_pad (k - J) J n hJ2
 rwa [show k - J + J = k by omega] at this
set_option maxHeartbeats 1600000 in
set_option maxRecDepth 100000 in
theorem hext_any (n k : Nat) (z : Int) (hz : (k : Int) = z) (hn : n < 16777216) (hk : n < 16 ^ k) (h1 : 1 ≤ k) (h6 : k ≤ 6) (w : World) (hT : DB w) : Calls Tryz.prog 36 #[.int .i64 (n : Int), .int .i64 z] w fun e w' => e = .returned (.string ⟨(vhL k n).toArray⟩) ∧ Below w.heap.size w w' := by
 have FI := Lib.hid (fint_any n hn w hT)
 have RE : Hid (∀ (c : Nat) (y : Int) (wx : World), (c : Int) = y → c ≤ 6 → Calls Tryz.prog 60 #[.string ⟨#[48]⟩, .int .i64 y] wx fun e w' => e = .returned (.string ⟨(List.replicate c (48 : UInt8)).toArray⟩) ∧ Below wx.heap.size wx w') := Lib.hid (fun c y wx hc h6 => by
  subst hc
  have := Any.strings_Repeat vlays105 vextra ⟨#[48]⟩ c wx (by omega) (by show 1 * c ≤ _; omega)
  rw [show (⟨#[48]⟩ : ByteArray).data.toList = [48] from rfl, repeat48] at this
  exact this)
 clear hT
 go_enter Tryz.func36, Tryz.ntmps36
 go_upto_region 2 with (go_at_call 59; (with_reducible refine (FI.out).mono ?_); rintro e w1 ⟨⟨l, hl, rfl⟩, hb⟩)
 obtain ⟨hlk, hpad⟩ := hexIs_pad hl hk h1
 obtain ⟨c, hc⟩ : ∃ c, c = k - l.length := ⟨_, rfl⟩
 obtain ⟨sl, hsl⟩ : ∃ sl : ByteArray, sl = ⟨l.toArray⟩ := ⟨_, rfl⟩
 obtain ⟨rs, hrs⟩ : ∃ rs : ByteArray, rs = ⟨(List.replicate c (48 : UInt8)).toArray⟩ := ⟨_, rfl⟩
 have hsz : sl.size = l.length := by rw [hsl]; show l.toArray.size = _; simp
 have hcs : rs.size = c := by rw [hrs]; show (List.replicate c (48 : UInt8)).toArray.size = _; simp
 have hd : z - (sl.size : Int) = (c : Int) := by rw [hsz]; omega
 rw [← hc] at hpad
 have hcat : rs ++ sl = ⟨(vhL k n).toArray⟩ := by rw [hpad, hrs, hsl]; apply ByteArray.ext; simp
 have R2 : Hid (∀ wx : World, Calls Tryz.prog 60 #[.string ⟨#[48]⟩, .int .i64 (c : Int)] wx fun e w' => e = .returned (.string rs) ∧ Below wx.heap.size wx w') := Lib.hid (fun wx => by rw [hrs]; exact RE.out c _ wx rfl (by omega))
 have hlim : ¬ 9223372036854775807 < rs.size + sl.size := by omega
 have hw : IntKind.i64.wrap (c : Int) = (c : Int) := w64 _ (by omega)
 have HC := Lib.hid hcat
 have HB := Lib.hid hb
 rw [← hsl]
 clear FI RE hl hk h1 hlk hpad hc hb hsl hrs hsz hcs hcat
 go_wp2_with (go_at_call 60; (with_reducible refine (R2.out _).mono ?_); rintro e w2 ⟨rfl, hb2⟩)
 go_ret
 exact ⟨by rw [← HC.out]; rfl, HB.out.trans (hb2.mono HB.out.size)⟩
end Go.Proofs.YtmlmdidaldcoiaaGreatDoor
