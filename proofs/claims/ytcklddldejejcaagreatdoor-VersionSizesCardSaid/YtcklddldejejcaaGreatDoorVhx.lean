/- Contracts of the library in the numbers of this program: theorems proved once over any program; here the kernel compares the bodies and types. -/
import Derived.Test.YtcklddldejejcaaGreatDoorProg
import Derived.Test.YtcklddldejejcaaGreatDoorRows
import Derived.Test.YtcklddldejejcaaGreatDoorVpr
import Derived.Shelf.Strings.Repeat
import Derived.Shelf.Strconv.ErrVarAll
import Derived.Shelf.Strconv.ToError
set_option linter.unusedVariables false
set_option linter.unusedSimpArgs false
set_option maxRecDepth 100000
set_option maxHeartbeats 3200000
namespace Go.Proofs.YtcklddldejejcaaGreatDoor
open Go.Shelf Go.RowKit Go.Lib
def vren:Go.Shelf.Ren:=⟨fun | 99=>100 | 105=>58 | 129=>211 | 165=>101 | 166=>102 | 169=>104 | 170=>103 | 171=>130 | 205=>237 | 206=>157 | 212=>99 | 240=>158 | 241=>159 | 243=>181 | 245=>178 | 246=>165 | 263=>155 | 264=>156 | 276=>185 | 277=>186 | 279=>205 | 280=>206 | 281=>207 | 282=>208 | 283=>187 | 284=>188 | 285=>189 | 286=>190 | 316=>236 | 317=>210 | 318=>212 | 319=>213 | 320=>214 | 337=>238 | 338=>239 | n=>n,fun | 0=>0 | 2=>2 | 3=>3 | 4=>4 | 5=>5 | 9=>9 | 20=>20 | 37=>73 | 46=>117 | 51=>108 | 53=>150 | 70=>121 | 72=>123 | 75=>126 | 76=>127 | 80=>50 | 109=>118 | 127=>174 | 143=>279 | 145=>281 | 146=>170 | 148=>172 | 164=>185 | 167=>227 | 168=>230 | 171=>188 | 173=>191 | 210=>264 | 212=>234 | 213=>235 | 232=>111 | 233=>282 | n=>n,fun | 15=>7 | 16=>8 | 17=>6 | 18=>10 | 19=>11 | n=>n⟩
theorem vlays105:Go.Proofs.Lays.n105 Tryz.prog vren:={
 mixed:=by kernel_rfl
 f99:=Tryz.func100.trans (congrArg some (by kernel_rfl))
 f105:=Tryz.func58.trans (congrArg some (by kernel_rfl))
 f165:=Tryz.func101.trans (congrArg some (by kernel_rfl))
 f166:=Tryz.func102.trans (congrArg some (by kernel_rfl))
 f169:=Tryz.func104.trans (congrArg some (by kernel_rfl))
 f170:=Tryz.func103.trans (congrArg some (by kernel_rfl))
 f206:=Tryz.func157.trans (congrArg some (by kernel_rfl))
 f212:=Tryz.func99.trans (congrArg some (by kernel_rfl))
 f240:=Tryz.func158.trans (congrArg some (by kernel_rfl))
 f241:=Tryz.func159.trans (congrArg some (by kernel_rfl))
 f263:=Tryz.func155.trans (congrArg some (by kernel_rfl))
 f264:=Tryz.func156.trans (congrArg some (by kernel_rfl))
 f276:=Tryz.func185.trans (congrArg some (by kernel_rfl))
 f277:=Tryz.func186.trans (congrArg some (by kernel_rfl))
 t0:=Tryz.underlying0
 a0:=Tryz.isAgg0
 z0:=Tryz.sizeOf0
 v0:=Tryz.zeroValue0
 t3:=Tryz.underlying3
 a3:=Tryz.isAgg3
 z3:=Tryz.sizeOf3
 v3:=Tryz.zeroValue3
 t4:=Tryz.underlying4
 a4:=Tryz.isAgg4
 z4:=Tryz.sizeOf4
 v4:=Tryz.zeroValue4
 t5:=Tryz.underlying5
 a5:=Tryz.isAgg5
 z5:=Tryz.sizeOf5
 v5:=Tryz.zeroValue5
 t9:=Tryz.underlying9
 a9:=Tryz.isAgg9
 z9:=Tryz.sizeOf9
 v9:=Tryz.zeroValue9
 t20:=Tryz.underlying20
 a20:=Tryz.isAgg20
 z20:=Tryz.sizeOf20
 v20:=Tryz.zeroValue20
 t37:=Tryz.underlying73
 a37:=Tryz.isAgg73
 z37:=Tryz.sizeOf73
 v37:=Tryz.zeroValue73
 t46:=Tryz.underlying117
 a46:=Tryz.isAgg117
 z46:=Tryz.sizeOf117
 v46:=Tryz.zeroValue117
 t51:=Tryz.underlying108
 a51:=Tryz.isAgg108
 z51:=Tryz.sizeOf108
 v51:=Tryz.zeroValue108
 t53:=Tryz.underlying150
 a53:=Tryz.isAgg150
 z53:=Tryz.sizeOf150
 v53:=Tryz.zeroValue150
 t70:=Tryz.underlying121
 a70:=Tryz.isAgg121
 z70:=Tryz.sizeOf121
 v70:=Tryz.zeroValue121
 t72:=Tryz.underlying123
 a72:=Tryz.isAgg123
 z72:=Tryz.sizeOf123
 v72:=Tryz.zeroValue123
 t75:=Tryz.underlying126
 a75:=Tryz.isAgg126
 z75:=Tryz.sizeOf126
 v75:=Tryz.zeroValue126
 t76:=Tryz.underlying127
 a76:=Tryz.isAgg127
 z76:=Tryz.sizeOf127
 v76:=Tryz.zeroValue127
 t109:=Tryz.underlying118
 a109:=Tryz.isAgg118
 z109:=Tryz.sizeOf118
 v109:=Tryz.zeroValue118
 t127:=Tryz.underlying174
 a127:=Tryz.isAgg174
 z127:=Tryz.sizeOf174
 v127:=Tryz.zeroValue174
 t146:=Tryz.underlying170
 a146:=Tryz.isAgg170
 z146:=Tryz.sizeOf170
 v146:=Tryz.zeroValue170
 t148:=Tryz.underlying172
 a148:=Tryz.isAgg172
 z148:=Tryz.sizeOf172
 v148:=Tryz.zeroValue172
 t164:=Tryz.underlying185
 a164:=Tryz.isAgg185
 z164:=Tryz.sizeOf185
 v164:=Tryz.zeroValue185
}
theorem vlays245:Go.Proofs.LaysC.n245 Tryz.prog vren:={
 mixed:=by kernel_rfl
 f129:=Tryz.func211.trans (congrArg some (by kernel_rfl))
 f171:=Tryz.func130.trans (congrArg some (by kernel_rfl))
 f205:=Tryz.func237.trans (congrArg some (by kernel_rfl))
 f243:=Tryz.func181.trans (congrArg some (by kernel_rfl))
 f245:=Tryz.func178.trans (congrArg some (by kernel_rfl))
 f246:=Tryz.func165.trans (congrArg some (by kernel_rfl))
 f279:=Tryz.func205.trans (congrArg some (by kernel_rfl))
 f280:=Tryz.func206.trans (congrArg some (by kernel_rfl))
 f281:=Tryz.func207.trans (congrArg some (by kernel_rfl))
 f282:=Tryz.func208.trans (congrArg some (by kernel_rfl))
 f283:=Tryz.func187.trans (congrArg some (by kernel_rfl))
 f284:=Tryz.func188.trans (congrArg some (by kernel_rfl))
 f285:=Tryz.func189.trans (congrArg some (by kernel_rfl))
 f286:=Tryz.func190.trans (congrArg some (by kernel_rfl))
 f316:=Tryz.func236.trans (congrArg some (by kernel_rfl))
 f317:=Tryz.func210.trans (congrArg some (by kernel_rfl))
 f318:=Tryz.func212.trans (congrArg some (by kernel_rfl))
 f319:=Tryz.func213.trans (congrArg some (by kernel_rfl))
 f320:=Tryz.func214.trans (congrArg some (by kernel_rfl))
 f337:=Tryz.func238.trans (congrArg some (by kernel_rfl))
 f338:=Tryz.func239.trans (congrArg some (by kernel_rfl))
 t0:=Tryz.underlying0
 a0:=Tryz.isAgg0
 z0:=Tryz.sizeOf0
 v0:=Tryz.zeroValue0
 t2:=Tryz.underlying2
 a2:=Tryz.isAgg2
 z2:=Tryz.sizeOf2
 v2:=Tryz.zeroValue2
 t3:=Tryz.underlying3
 a3:=Tryz.isAgg3
 z3:=Tryz.sizeOf3
 v3:=Tryz.zeroValue3
 t4:=Tryz.underlying4
 a4:=Tryz.isAgg4
 z4:=Tryz.sizeOf4
 v4:=Tryz.zeroValue4
 t5:=Tryz.underlying5
 a5:=Tryz.isAgg5
 z5:=Tryz.sizeOf5
 v5:=Tryz.zeroValue5
 t9:=Tryz.underlying9
 a9:=Tryz.isAgg9
 z9:=Tryz.sizeOf9
 v9:=Tryz.zeroValue9
 t20:=Tryz.underlying20
 a20:=Tryz.isAgg20
 z20:=Tryz.sizeOf20
 v20:=Tryz.zeroValue20
 t37:=Tryz.underlying73
 a37:=Tryz.isAgg73
 z37:=Tryz.sizeOf73
 v37:=Tryz.zeroValue73
 t46:=Tryz.underlying117
 a46:=Tryz.isAgg117
 z46:=Tryz.sizeOf117
 v46:=Tryz.zeroValue117
 t51:=Tryz.underlying108
 a51:=Tryz.isAgg108
 z51:=Tryz.sizeOf108
 v51:=Tryz.zeroValue108
 t53:=Tryz.underlying150
 a53:=Tryz.isAgg150
 z53:=Tryz.sizeOf150
 v53:=Tryz.zeroValue150
 t75:=Tryz.underlying126
 a75:=Tryz.isAgg126
 z75:=Tryz.sizeOf126
 v75:=Tryz.zeroValue126
 t127:=Tryz.underlying174
 a127:=Tryz.isAgg174
 z127:=Tryz.sizeOf174
 v127:=Tryz.zeroValue174
 t143:=Tryz.underlying279
 a143:=Tryz.isAgg279
 z143:=Tryz.sizeOf279
 v143:=Tryz.zeroValue279
 t145:=Tryz.underlying281
 a145:=Tryz.isAgg281
 z145:=Tryz.sizeOf281
 v145:=Tryz.zeroValue281
 t167:=Tryz.underlying227
 a167:=Tryz.isAgg227
 z167:=Tryz.sizeOf227
 v167:=Tryz.zeroValue227
 t168:=Tryz.underlying230
 a168:=Tryz.isAgg230
 z168:=Tryz.sizeOf230
 v168:=Tryz.zeroValue230
 t171:=Tryz.underlying188
 a171:=Tryz.isAgg188
 z171:=Tryz.sizeOf188
 v171:=Tryz.zeroValue188
 t173:=Tryz.underlying191
 a173:=Tryz.isAgg191
 z173:=Tryz.sizeOf191
 v173:=Tryz.zeroValue191
 t210:=Tryz.underlying264
 a210:=Tryz.isAgg264
 z210:=Tryz.sizeOf264
 v210:=Tryz.zeroValue264
 t212:=Tryz.underlying234
 a212:=Tryz.isAgg234
 z212:=Tryz.sizeOf234
 v212:=Tryz.zeroValue234
 t213:=Tryz.underlying235
 a213:=Tryz.isAgg235
 z213:=Tryz.sizeOf235
 t232:=Tryz.underlying111
 a232:=Tryz.isAgg111
 z232:=Tryz.sizeOf111
 v232:=Tryz.zeroValue111
 t233:=Tryz.underlying282
 a233:=Tryz.isAgg282
 z233:=Tryz.sizeOf282
 v233:=Tryz.zeroValue282
 g15:=by kernel_rfl
 g16:=by kernel_rfl
 g17:=by kernel_rfl
 g18:=by kernel_rfl
 g19:=by kernel_rfl
 t80:=Tryz.underlying50
 a80:=Tryz.isAgg50
 z80:=Tryz.sizeOf50
 v80:=Tryz.zeroValue50
 i0:=by kernel_rfl
 i2:=by kernel_rfl
 i3:=by kernel_rfl
 i4:=by kernel_rfl
 i5:=by kernel_rfl
 i9:=by kernel_rfl
 i20:=by kernel_rfl
 i37:=by kernel_rfl
 i46:=by kernel_rfl
 i51:=by kernel_rfl
 i53:=by kernel_rfl
 i75:=by kernel_rfl
 i80:=by kernel_rfl
 i127:=by kernel_rfl
 i143:=by kernel_rfl
 i145:=by kernel_rfl
 i167:=by kernel_rfl
 i168:=by kernel_rfl
 i171:=by kernel_rfl
 i173:=by kernel_rfl
 i210:=by kernel_rfl
 i212:=by kernel_rfl
 i232:=by kernel_rfl
 i233:=by kernel_rfl
 m15:=by kernel_rfl
 m16:=by kernel_rfl
 m17:=by kernel_rfl
 m18:=by kernel_rfl
 m19:=by kernel_rfl
 c0:=by kernel_rfl
 c2:=by kernel_rfl
 c3:=by kernel_rfl
 c4:=by kernel_rfl
 c5:=by kernel_rfl
 c9:=by kernel_rfl
 c20:=by kernel_rfl
 c37:=by kernel_rfl
 c46:=by kernel_rfl
 c51:=by kernel_rfl
 c53:=by kernel_rfl
 c75:=by kernel_rfl
 c80:=by kernel_rfl
 c127:=by kernel_rfl
 c143:=by kernel_rfl
 c145:=by kernel_rfl
 c167:=by kernel_rfl
 c168:=by kernel_rfl
 c171:=by kernel_rfl
 c173:=by kernel_rfl
 c210:=by kernel_rfl
 c212:=by kernel_rfl
 c213:=by kernel_rfl
 c232:=by kernel_rfl
 c233:=by kernel_rfl
}
theorem vextra:Builder.Extra Tryz.prog vren:={
 sizeBuilder:=by kernel_rfl
 liesBuilder:=by kernel_rfl
 t5:=Tryz.underlying5
 a5:=Tryz.isAgg5
 z5:=Tryz.sizeOf5
 v5:=Tryz.zeroValue5
 infoByte:=by kernel_rfl
 cellsByte:=by kernel_rfl
 sizeByte:=by kernel_rfl
 neB5:=by decide
}
end Go.Proofs.YtcklddldejejcaaGreatDoor
namespace Go.Proofs.YtcklddldejejcaaGreatDoor
open Go Go.Maps Go.ChangeShapes Go.WideShapes Go.ChangeAt Go.RowKit
theorem vhL_cons:∀ (j n:Nat),vhL (j+1) n=vhC (n / 16 ^ j % 16)::vhL j n
 | 0,n=>by rw [Nat.pow_zero,Nat.div_one];rfl
 | j+1,n=>by
  rw [vhL,vhL_cons j (n / 16),Nat.div_div_eq_div_mul,show 16 * 16 ^ j=16 ^ (j+1) by rw [Nat.pow_succ,Nat.mul_comm]]
  rfl
theorem vhL_pad:∀ (k J n:Nat),n<16 ^ J→vhL (k+J) n=List.replicate k 48++vhL J n
 | 0,J,n,_=>by rw [Nat.zero_add];rfl
 | k+1,J,n,h=>by
  have h2:n<16 ^ (k+J):=Ll h (Nat.pow_le_pow_right (by decide) (by omega))
  rw [show k+1+J=(k+J)+1 by omega,vhL_cons,Nat.div_eq_of_lt h2,vhL_pad k J n h]
  rfl
def DB (w:World):Prop:=w.cell? ⟨11,15,none⟩=some (.int .u8 4)
theorem DB.below {w w':World} (h:DB w) (hb:Below w.heap.size w w'):DB w':=(hb.cell (p:=⟨_,15,none⟩) (cell_lt h)).trans h
theorem tz64_16 (w:World) (h:DB w):Calls Tryz.prog 239 #[.int .u64 16] w fun e w'=>e=.returned (.int .i64 4)∧w=w':=by
 have hc:w.cell? ⟨11,15,none⟩=some (.int .u8 4):=h
 have q0:IntKind.u64.wrap (-16)=18446744073709551600:=by decide
 have q1:bits .and .u64 16 18446744073709551600=16:=by decide
 have q2:IntKind.u64.wrap 4573923408821661840=4573923408821661840:=by decide
 go_enter Tryz.func239,Tryz.ntmps239
 go_wp2
 go_ret
 exact ⟨rfl,rfl⟩
theorem tz_16 (w:World) (h:DB w):Calls Tryz.prog 214 #[.int .u64 16] w fun e w'=>e=.returned (.int .i64 4)∧w=w':=by
 have T:=Hh (tz64_16 w h)
 go_enter Tryz.func214,Tryz.ntmps214
 go_wp2_with (go_at_call 239;(with_reducible refine (T.out).mono ?_);rintro e w1 ⟨rfl,rfl⟩)
 go_ret
 exact ⟨rfl,rfl⟩
theorem ispow_16 (w:World):Calls Tryz.prog 213 #[.int .i64 16] w fun e w'=>e=.returned (.bool true)∧w=w':=by
 have q1:bits .and .i64 16 15=0:=by decide
 go_enter Tryz.func213,Tryz.ntmps213
 go_wp2
 go_ret
 exact ⟨rfl,rfl⟩
theorem hexs_get (m:Nat) (h16:m<16) (h:m<ByteArray.size { data:=#[48,49,50,51,52,53,54,55,56,57,97,98,99,100,101,102,103,104,105,106,107,108,109,110,111,112,113,114,115,116,117,118,119,120,121,122] }):({ data:=#[48,49,50,51,52,53,54,55,56,57,97,98,99,100,101,102,103,104,105,106,107,108,109,110,111,112,113,114,115,116,117,118,119,120,121,122] }:ByteArray)[m]'h=vhC m:=by
 have all:∀m:Fin 16,∀h,({ data:=#[48,49,50,51,52,53,54,55,56,57,97,98,99,100,101,102,103,104,105,106,107,108,109,110,111,112,113,114,115,116,117,118,119,120,121,122] }:ByteArray)[m.val]'h=vhC m.val:=by decide
 exact all ⟨m,h16⟩ h
theorem u64_and15 (n:Nat):bits .and .u64 (n:Int) 15=((n % 16:Nat):Int):=by
 have h15:(BitVec.ofInt 64 15).toNat=2 ^ 4 - 1:=by decide
 have key:(BitVec.ofInt 64 (n:Int) &&& BitVec.ofInt 64 15).toNat=((n:Int) % ((2 ^ 64:Nat):Int)).toNat % 2 ^ 4:=by
  rw [BitVec.toNat_and,BitVec.toNat_ofInt,h15,Nat.and_two_pow_sub_one_eq_mod]
 show IntKind.u64.wrap ((BitVec.ofInt 64 (n:Int) &&& BitVec.ofInt 64 15).toNat:Nat)=_
 rw [key,IntKind.wrap_u64]
 omega
theorem hex_more {n j:Nat} (hn:n<16777216) (h:16≤n / 16 ^ j):16 ^ (j+1)≤n∧j+1≤5:=by
 have h1:16 * 16 ^ j≤n:=(Nat.le_div_iff_mul_le (Nat.pow_pos (by decide))).1 h
 have h2:16 ^ (j+1)≤n:=by rw [Nat.pow_succ,Nat.mul_comm];exact h1
 refine ⟨h2,?_⟩
 rcases Nat.lt_or_ge (j+1) 6 with h3 | h3
 ·omega
 ·have:16 ^ 6≤16 ^ (j+1):=Nat.pow_le_pow_right (by decide) h3
  have e:16 ^ 6=16777216:=by decide
  omega
theorem hex_done {n j:Nat} (h:¬16≤n / 16 ^ j):n<16 ^ (j+1):=by
 have:=(Nat.div_lt_iff_lt_mul (x:=n) (y:=16) (Nat.pow_pos (n:=j) (by decide:0<16))).1 (by omega)
 rwa [Nat.pow_succ,Nat.mul_comm]
theorem slice_from65 {P:Program} (t e:TypeId) (n g l:Nat) (li:Int) (hli:li=(l:Int)) (hl:l<n) (hu:P.underlying t=some (.array n e)) (hsz:∀w,(sizeOf e).run P w=.ok 1 w) (w:World) :
 (Instr.sliceAt t (.pointer (some ⟨g,0,none⟩)) (some (.int .i64 li)) none none).run P w=.ok (.slice (some ⟨g,l,none⟩) (n - l) (n - l)) w:=by
 subst hli
 have ha:P.arrayLen t=n:=by simp [Program.arrayLen,hu]
 have he:P.elem t=e:=by simp [Program.elem,hu]
 rw [run_sliceAt_array_l w t ⟨g,0,none⟩ (by rw [ha,he];exact hu) .i64 (l:Int) (by omega) (by rw [ha];omega),he,hsz]
 have hne:¬n=l:=by omega
 simp [Result.andThen,slicedAt,ha,hne,Addr.add_lit]
def FbA (w:World) (g j n:Nat):Prop:=Arr w g 235 (List.replicate (65 - j) (.int .u8 0)++bytesV (vhL j n))
theorem FbA.step {w:World} {g j n:Nat} (h:FbA w g j n) (hj:j<65):FbA (w.setCell ⟨g,64 - j,none⟩ (.int .u8 ((vhC (n / 16 ^ j % 16)).toNat:Int))) g (j+1) n:=by
 unfold FbA at h ⊢
 have:=h.store (64 - j) (.int .u8 ((vhC (n / 16 ^ j % 16)).toNat:Int))
 rw [vhL_cons]
 have e:(List.replicate (65 - j) (Value.int .u8 0)++bytesV (vhL j n)).set (64 - j) (.int .u8 ((vhC (n / 16 ^ j % 16)).toNat:Int))=List.replicate (65 - (j+1)) (.int .u8 0)++bytesV (vhC (n / 16 ^ j % 16)::vhL j n):=by
  rw [show 65 - j=(64 - j)+1 by omega,List.replicate_succ',List.append_assoc,List.set_append_right _ _ (by simp),List.length_replicate,Nat.sub_self]
  show _++(_::bytesV (vhL j n))=_
  rw [show 65 - (j+1)=64 - j by omega]
  rfl
 rw [←e]
 exact this
def HexIs (n:Nat) (l:List UInt8):Prop:=∃J,1≤J∧l=vhL J n∧n<16 ^ J∧(J=1∨16 ^ (J - 1)≤n)
theorem fbits_any (n:Nat) (hn:n<16777216) (w:World) (hT:DB w):Calls Tryz.prog 190 #[.slice none 0 0,.int .u64 (n:Int),.int .i64 16,.bool false,.bool false] w fun e w'=>(∃l,HexIs n l∧e=.returned (.tuple #[.slice none 0 0,.string ⟨l.toArray⟩]))∧Below w.heap.size w w':=by
 have IP:=Hh (fun wx:World=>ispow_16 wx)
 have z0:Tryz.zeroCells235=(List.replicate 65 (.int .u8 0)).toArray:=by rfl
 have k0:FbA (w.alloc (.cells Tryz.zeroCells235 235)) w.heap.size 0 n:=by
  unfold FbA
  rw [z0]
  exact Arr.new _ _ _
 have b0:=(Br w.heap.size w).alloc (o:=.cells Tryz.zeroCells235 235) (Lr _)
 have TZ:=Hh (tz_16 (w.alloc (.cells Tryz.zeroCells235 235)) (hT.below b0))
 have K0:=Hh k0
 have B0:=Hh b0
 clear k0 b0 hT z0
 go_enter Tryz.func190,Tryz.ntmps190
 go_upto_region 4 with fail
 generalize w.alloc _=w1 at TZ K0 B0 ⊢
 have hg:w.heap.size≤w.heap.size:=Lr _
 obtain ⟨g,hgg⟩:∃g,g=w.heap.size:=⟨_,rfl⟩
 rw [←hgg] at K0 ⊢
 have HG:Hid (w.heap.size≤g):=Hh (by omega)
 clear hgg hg
 go_upto_region 11 with (first
  | (go_at_call 213;(with_reducible refine (IP.out _).mono ?_);rintro e w2 ⟨rfl,rfl⟩)
  | (go_at_call 214;(with_reducible refine (TZ.out).mono ?_);rintro e w2 ⟨rfl,rfl⟩))
 go_loopw [1,13] (fun vu vi wr=>∃ (j q:Nat) (z:Int),vu=.int .u64 z∧vi=.int .i64 (q:Int)∧q+j=65∧j≤5∧Hid (z=((n / 16 ^ j:Nat):Int)∧(j=0∨16 ^ j≤n))∧FbA wr g j n∧Below w.heap.size w wr) (fun _ vi _=>(intOf vi).toNat)
 case atStart=>exact ⟨0,65,_,rfl,rfl,rfl,by omega,Hh ⟨by rw [Nat.pow_zero,Nat.div_one],.inl rfl⟩,K0.out,B0.out⟩
 case round=>
  obtain ⟨j,q,z,rfl,rfl,hqj,hj5,hz,hA,hb⟩:=hrel
  obtain ⟨p,rfl⟩:∃p,q=p+1:=⟨q - 1,by omega⟩
  have hc:=hA.cellAt (j:=p) (u:=.int .u8 0) (by rw [List.getElem?_append_left (by simp;omega),List.getElem?_replicate,if_pos (by omega)])
  have hf:=hA.free p
  have hAs:=hA.step (by omega)
  rw [show 64 - j=p by omega] at hAs
  have hz1:0≤z∧z<16777216:=by
   have h1:=hz.out.1
   have h2:n / 16 ^ j≤n:=Nat.div_le_self _ _
   generalize n / 16 ^ j=d0 at h1 h2
   omega
  have hand:bits .and .u64 z 15=((n / 16 ^ j % 16:Nat):Int):=by rw [hz.out.1];exact u64_and15 _
  have hd16:n / 16 ^ j % 16<16:=Nat.mod_lt _ (by decide)
  have HS:=Hh (Ai hAs (hb.grown (vgrown_set wr g p (.int .u8 ((vhC (n / 16 ^ j % 16)).toNat:Int))) hb.size (fun k hk=>by cases hk;exact HG.out)))
  obtain ⟨d,hd⟩:∃d,d=n / 16 ^ j % 16:=⟨_,rfl⟩
  have e1:((p+1:Nat):Int) - 1=(p:Int):=by omega
  have hp65:(p:Int)<65:=by omega
  have hp0:(0:Int)≤(p:Int):=by omega
  have HQ:=Hh hqj
  have h16e:(16≤z→16≤n / 16 ^ j)∧(¬16≤z→¬16≤n / 16 ^ j∧(n / 16 ^ j % 16:Nat)=z.toNat):=by
   have h1:=hz.out.1
   generalize n / 16 ^ j=d0 at h1
   omega
  by_cases h16:16≤z
  ·have HN:=Hh (hex_more hn (h16e.1 h16))
   have HZ:Hid (z / 16=((n / 16 ^ (j+1):Nat):Int)):=Hh (by rw [hz.out.1,Nat.pow_succ,←Nat.div_div_eq_div_mul,Int.natCast_ediv];rfl)
   rw [←hd] at hand hd16 HS
   have ha:=hexs_get d hd16
   clear hd hAs hA hb hz hqj hn h16e
   go_wp2
   go_roundw
   case rel=>exact ⟨j+1,p,_,rfl,by go_num,by have:=HQ.out;omega,HN.out.2,Hh ⟨HZ.out,.inr HN.out.1⟩,HS.out.1,HS.out.2⟩
   case measure=>simp [intOf]
  ·obtain ⟨h17,hdz⟩:=h16e.2 h16
   rw [←hd] at hdz hd16 HS
   have hzd:z=(d:Int):=by omega
   subst hzd
   have ha:=hexs_get d hd16
   have HL:=Hh (hex_done h17)
   have hcv:=run_convert_bytes_back (P:=Tryz.prog) (wr.setCell ⟨g,p,none⟩ (.int .u8 ((vhC d).toNat:Int))) 73 9 5 ⟨g,p,none⟩ (65 - p) (vhL (j+1) n) Tryz.underlying73 Tryz.underlying5 Tryz.underlying9 (fun i hi=>by
    rw [Addr.add_lit]
    rw [vhL_length] at hi
    refine HS.out.1.cellAt (j:=p+i) ?_
    rw [List.getElem?_append_right (by simp;omega),List.length_replicate,show p+i - (65 - (j+1))=i by omega]
    unfold bytesV
    rw [List.getElem?_map,List.getElem?_eq_getElem (by rw [vhL_length];exact hi)]
    rfl)
   rw [vhL_length] at hcv
   have hsl:=slice_from65 (P:=Tryz.prog) 235 5 65 g p (p:Int) rfl (by omega) Tryz.underlying235 Tryz.sizeOf5
   rw [show 65 - p=j+1 by omega] at hcv hsl
   have HZ:=Hh hz.out.2
   clear hd hAs hA hb hz hqj hn h17 hdz
   go_wp2
   go_ret2
   exact ⟨⟨vhL (j+1) n,⟨j+1,by omega,rfl,HL.out,by rcases HZ.out with rfl | h;exact .inl rfl;exact .inr h⟩,rfl⟩,HS.out.2⟩
theorem ifint_any (n:Nat) (hn:n<16777216) (w:World) (hT:DB w):Calls Tryz.prog 165 #[.int .i64 (n:Int),.int .i64 16] w fun e w'=>(∃l,HexIs n l∧e=.returned (.string ⟨l.toArray⟩))∧Below w.heap.size w w':=by
 have FB:=Hh (fbits_any n hn w hT)
 have h0:¬ (n:Int)<0:=by omega
 go_enter Tryz.func165,Tryz.ntmps165
 go_wp2_with (go_at_call 190;(with_reducible refine (FB.out).mono ?_);rintro e w1 ⟨⟨l,hl,rfl⟩,hb⟩)
 go_ret
 exact ⟨⟨l,hl,rfl⟩,hb⟩
theorem fint_any (n:Nat) (hn:n<16777216) (w:World) (hT:DB w):Calls Tryz.prog 115 #[.int .i64 (n:Int),.int .i64 16] w fun e w'=>(∃l,HexIs n l∧e=.returned (.string ⟨l.toArray⟩))∧Below w.heap.size w w':=by
 have FB:=Hh (ifint_any n hn w hT)
 go_enter Tryz.func115,Tryz.ntmps115
 go_wp2_with (go_at_call 165;(with_reducible refine (FB.out).mono ?_);rintro e w1 ⟨⟨l,hl,rfl⟩,hb⟩)
 go_ret
 exact ⟨⟨l,hl,rfl⟩,hb⟩
theorem repeat48 (c:Nat):Lib.repeatL [48] c=List.replicate c (48:UInt8):=by
 induction c with
 | zero=>rfl
 | succ c ih=>rw [List.replicate_succ,←ih];rfl
theorem hexIs_pad {n k:Nat} {l:List UInt8} (h:HexIs n l) (hk:n<16 ^ k) (h1:1≤k):l.length≤k∧vhL k n=List.replicate (k - l.length) 48++l:=by
 obtain ⟨J,hJ1,rfl,hJ2,hJ3⟩:=h
 have hJk:J≤k:=by
  rcases hJ3 with rfl | h
  ·exact h1
  ·have:J - 1<k:=(Nat.pow_lt_pow_iff_right (by decide:1<16)).1 (Nat.lt_of_le_of_lt h hk)
   omega
 rw [vhL_length]
 refine ⟨hJk,?_⟩
 have:=vhL_pad (k - J) J n hJ2
 rwa [show k - J+J=k by omega] at this
theorem hext_any (n k:Nat) (z:Int) (hz:(k:Int)=z) (hn:n<16777216) (hk:n<16 ^ k) (h1:1≤k) (h6:k≤6) (w:World) (hT:DB w):Calls Tryz.prog 70 #[.int .i64 (n:Int),.int .i64 z] w fun e w'=>e=.returned (.string ⟨(vhL k n).toArray⟩)∧Below w.heap.size w w':=by
 have FI:=Hh (fint_any n hn w hT)
 have RE:Hid (∀ (c:Nat) (y:Int) (wx:World),(c:Int)=y→c≤6→Calls Tryz.prog 58 #[.string ⟨#[48]⟩,.int .i64 y] wx fun e w'=>e=.returned (.string ⟨(List.replicate c (48:UInt8)).toArray⟩)∧Below wx.heap.size wx w'):=Hh (fun c y wx hc h6=>by
  subst hc
  have:=Any.strings_Repeat vlays105 vextra ⟨#[48]⟩ c wx (by omega) (by show 1 * c≤_;omega)
  rw [show (⟨#[48]⟩:ByteArray).data.toList=[48] from rfl,repeat48] at this
  exact this)
 clear hT
 go_enter Tryz.func70,Tryz.ntmps70
 go_upto_region 2 with ((with_reducible refine (FI.out).mono ?_);rintro e w1 ⟨⟨l,hl,rfl⟩,hb⟩)
 obtain ⟨hlk,hpad⟩:=hexIs_pad hl hk h1
 obtain ⟨c,hc⟩:∃c,c=k - l.length:=⟨_,rfl⟩
 obtain ⟨sl,hsl⟩:∃sl:ByteArray,sl=⟨l.toArray⟩:=⟨_,rfl⟩
 obtain ⟨rs,hrs⟩:∃rs:ByteArray,rs=⟨(List.replicate c (48:UInt8)).toArray⟩:=⟨_,rfl⟩
 have hsz:sl.size=l.length:=by rw [hsl];show l.toArray.size=_;simp
 have hcs:rs.size=c:=by rw [hrs];show (List.replicate c (48:UInt8)).toArray.size=_;simp
 have hd:z - (sl.size:Int)=(c:Int):=by rw [hsz];omega
 rw [←hc] at hpad
 have hcat:rs++sl=⟨(vhL k n).toArray⟩:=by rw [hpad,hrs,hsl];apply ByteArray.ext;simp
 have R2:Hid (∀wx:World,Calls Tryz.prog 58 #[.string ⟨#[48]⟩,.int .i64 (c:Int)] wx fun e w'=>e=.returned (.string rs)∧Below wx.heap.size wx w'):=Hh (fun wx=>by rw [hrs];exact RE.out c _ wx rfl (by omega))
 have hlim:¬9223372036854775807<rs.size+sl.size:=by omega
 have hw:IntKind.i64.wrap (c:Int)=(c:Int):=w64 _ (by omega)
 have HC:=Hh hcat
 have HB:=Hh hb
 rw [←hsl]
 clear FI RE hl hk h1 hlk hpad hc hb hsl hrs hsz hcs hcat
 go_wp2_with (go_at_call 58;(with_reducible refine (R2.out _).mono ?_);rintro e w2 ⟨rfl,hb2⟩)
 go_ret
 exact ⟨by rw [←HC.out];rfl,HB.out.trans (hb2.mono HB.out.size)⟩
end Go.Proofs.YtcklddldejejcaaGreatDoor