import Derived.Test.YtncdpanfefnjlaaGreatDoorProg
import Derived.Test.YtncdpanfefnjlaaGreatDoorRows
import Derived.Test.YtncdpanfefnjlaaGreatDoorHashb
import Derived.Test.YtncdpanfefnjlaaGreatDoorVpr
set_option linter.unusedVariables false
set_option linter.unusedSimpArgs false
set_option maxRecDepth 100000
set_option maxHeartbeats 3200000
namespace Go.Proofs.YtncdpanfefnjlaaGreatDoor
open Go.Proofs.Tryz
open Go.Shelf Go.RowKit Go.Lib
def aHt:Go.Shelf.Ren:=⟨fun | 99=>60 | 105=>33 | 129=>184 | 165=>61 | 166=>62 | 169=>64 | 170=>63 | 171=>99 | 205=>182 | 206=>94 | 212=>59 | 240=>95 | 241=>96 | 243=>121 | 245=>136 | 246=>137 | 263=>92 | 264=>93 | 276=>118 | 277=>119 | 279=>152 | 280=>153 | 281=>154 | 282=>155 | 283=>156 | 284=>157 | 285=>158 | 286=>159 | 316=>181 | 317=>183 | 318=>185 | 319=>186 | 320=>187 | 337=>201 | 338=>202 | n=>n,fun | 0=>0 | 2=>2 | 3=>3 | 4=>4 | 5=>5 | 9=>9 | 20=>20 | 37=>69 | 46=>85 | 51=>106 | 53=>130 | 70=>89 | 72=>91 | 75=>94 | 76=>95 | 80=>44 | 109=>86 | 127=>133 | 143=>253 | 145=>255 | 146=>128 | 148=>131 | 164=>154 | 167=>194 | 168=>197 | 171=>200 | 173=>203 | 210=>233 | 212=>236 | 213=>237 | 232=>109 | 233=>259 | n=>n,fun | 15=>6 | 16=>7 | 17=>8 | 18=>10 | 19=>11 | n=>n⟩
theorem IZ:Go.Proofs.Lays.n105 prog aHt:={
 mixed:=by kernel_rfl
 f99:=Tryz.func60.trans (Ad some (by kernel_rfl))
 f105:=Tryz.func33.trans (Ad some (by kernel_rfl))
 f165:=Tryz.func61.trans (Ad some (by kernel_rfl))
 f166:=Tryz.func62.trans (Ad some (by kernel_rfl))
 f169:=Tryz.func64.trans (Ad some (by kernel_rfl))
 f170:=Tryz.func63.trans (Ad some (by kernel_rfl))
 f206:=Tryz.func94.trans (Ad some (by kernel_rfl))
 f212:=Tryz.func59.trans (Ad some (by kernel_rfl))
 f240:=Tryz.func95.trans (Ad some (by kernel_rfl))
 f241:=Tryz.func96.trans (Ad some (by kernel_rfl))
 f263:=Tryz.func92.trans (Ad some (by kernel_rfl))
 f264:=Tryz.func93.trans (Ad some (by kernel_rfl))
 f276:=Tryz.func118.trans (Ad some (by kernel_rfl))
 f277:=Tryz.func119.trans (Ad some (by kernel_rfl))
 t0:=underlying0
 a0:=isAgg0
 z0:=sizeOf0
 v0:=zeroValue0
 t3:=underlying3
 a3:=isAgg3
 z3:=sizeOf3
 v3:=zeroValue3
 t4:=underlying4
 a4:=isAgg4
 z4:=sizeOf4
 v4:=zeroValue4
 t5:=underlying5
 a5:=isAgg5
 z5:=sizeOf5
 v5:=zeroValue5
 t9:=underlying9
 a9:=isAgg9
 z9:=sizeOf9
 v9:=zeroValue9
 t20:=underlying20
 a20:=isAgg20
 z20:=sizeOf20
 v20:=zeroValue20
 t37:=underlying69
 a37:=isAgg69
 z37:=sizeOf69
 v37:=zeroValue69
 t46:=underlying85
 a46:=isAgg85
 z46:=sizeOf85
 v46:=zeroValue85
 t51:=underlying106
 a51:=isAgg106
 z51:=sizeOf106
 v51:=zeroValue106
 t53:=underlying130
 a53:=isAgg130
 z53:=sizeOf130
 v53:=zeroValue130
 t70:=underlying89
 a70:=isAgg89
 z70:=sizeOf89
 v70:=zeroValue89
 t72:=underlying91
 a72:=isAgg91
 z72:=sizeOf91
 v72:=zeroValue91
 t75:=underlying94
 a75:=isAgg94
 z75:=sizeOf94
 v75:=zeroValue94
 t76:=underlying95
 a76:=isAgg95
 z76:=sizeOf95
 v76:=zeroValue95
 t109:=underlying86
 a109:=isAgg86
 z109:=sizeOf86
 v109:=zeroValue86
 t127:=underlying133
 a127:=isAgg133
 z127:=sizeOf133
 v127:=zeroValue133
 t146:=underlying128
 a146:=isAgg128
 z146:=sizeOf128
 v146:=zeroValue128
 t148:=underlying131
 a148:=isAgg131
 z148:=sizeOf131
 v148:=zeroValue131
 t164:=underlying154
 a164:=isAgg154
 z164:=sizeOf154
 v164:=zeroValue154
}
theorem ZD:Go.Proofs.LaysC.n245 prog aHt:={
 mixed:=by kernel_rfl
 f129:=Tryz.func184.trans (Ad some (by kernel_rfl))
 f171:=Tryz.func99.trans (Ad some (by kernel_rfl))
 f205:=Tryz.func182.trans (Ad some (by kernel_rfl))
 f243:=Tryz.func121.trans (Ad some (by kernel_rfl))
 f245:=Tryz.func136.trans (Ad some (by kernel_rfl))
 f246:=Tryz.func137.trans (Ad some (by kernel_rfl))
 f279:=Tryz.func152.trans (Ad some (by kernel_rfl))
 f280:=Tryz.func153.trans (Ad some (by kernel_rfl))
 f281:=Tryz.func154.trans (Ad some (by kernel_rfl))
 f282:=Tryz.func155.trans (Ad some (by kernel_rfl))
 f283:=Tryz.func156.trans (Ad some (by kernel_rfl))
 f284:=Tryz.func157.trans (Ad some (by kernel_rfl))
 f285:=Tryz.func158.trans (Ad some (by kernel_rfl))
 f286:=Tryz.func159.trans (Ad some (by kernel_rfl))
 f316:=Tryz.func181.trans (Ad some (by kernel_rfl))
 f317:=Tryz.func183.trans (Ad some (by kernel_rfl))
 f318:=Tryz.func185.trans (Ad some (by kernel_rfl))
 f319:=Tryz.func186.trans (Ad some (by kernel_rfl))
 f320:=Tryz.func187.trans (Ad some (by kernel_rfl))
 f337:=Tryz.func201.trans (Ad some (by kernel_rfl))
 f338:=Tryz.func202.trans (Ad some (by kernel_rfl))
 t0:=underlying0
 a0:=isAgg0
 z0:=sizeOf0
 v0:=zeroValue0
 t2:=underlying2
 a2:=isAgg2
 z2:=sizeOf2
 v2:=zeroValue2
 t3:=underlying3
 a3:=isAgg3
 z3:=sizeOf3
 v3:=zeroValue3
 t4:=underlying4
 a4:=isAgg4
 z4:=sizeOf4
 v4:=zeroValue4
 t5:=underlying5
 a5:=isAgg5
 z5:=sizeOf5
 v5:=zeroValue5
 t9:=underlying9
 a9:=isAgg9
 z9:=sizeOf9
 v9:=zeroValue9
 t20:=underlying20
 a20:=isAgg20
 z20:=sizeOf20
 v20:=zeroValue20
 t37:=underlying69
 a37:=isAgg69
 z37:=sizeOf69
 v37:=zeroValue69
 t46:=underlying85
 a46:=isAgg85
 z46:=sizeOf85
 v46:=zeroValue85
 t51:=underlying106
 a51:=isAgg106
 z51:=sizeOf106
 v51:=zeroValue106
 t53:=underlying130
 a53:=isAgg130
 z53:=sizeOf130
 v53:=zeroValue130
 t75:=underlying94
 a75:=isAgg94
 z75:=sizeOf94
 v75:=zeroValue94
 t127:=underlying133
 a127:=isAgg133
 z127:=sizeOf133
 v127:=zeroValue133
 t143:=underlying253
 a143:=isAgg253
 z143:=sizeOf253
 v143:=zeroValue253
 t145:=underlying255
 a145:=isAgg255
 z145:=sizeOf255
 v145:=zeroValue255
 t167:=underlying194
 a167:=isAgg194
 z167:=sizeOf194
 v167:=zeroValue194
 t168:=underlying197
 a168:=isAgg197
 z168:=sizeOf197
 v168:=zeroValue197
 t171:=underlying200
 a171:=isAgg200
 z171:=sizeOf200
 v171:=zeroValue200
 t173:=underlying203
 a173:=isAgg203
 z173:=sizeOf203
 v173:=zeroValue203
 t210:=underlying233
 a210:=isAgg233
 z210:=sizeOf233
 v210:=zeroValue233
 t212:=underlying236
 a212:=isAgg236
 z212:=sizeOf236
 v212:=zeroValue236
 t213:=underlying237
 a213:=isAgg237
 z213:=sizeOf237
 t232:=underlying109
 a232:=isAgg109
 z232:=sizeOf109
 v232:=zeroValue109
 t233:=underlying259
 a233:=isAgg259
 z233:=sizeOf259
 v233:=zeroValue259
 g15:=by kernel_rfl
 g16:=by kernel_rfl
 g17:=by kernel_rfl
 g18:=by kernel_rfl
 g19:=by kernel_rfl
 t80:=underlying44
 a80:=isAgg44
 z80:=sizeOf44
 v80:=zeroValue44
 i0:=by kernel_rfl
 i2:=by kernel_rfl
 i3:=by kernel_rfl
 i4:=by kernel_rfl
 i5:=by kernel_rfl
 i9:=by kernel_rfl
 i20:=by kernel_rfl
 i37:=by kernel_rfl
 i46:=by kernel_rfl
 i51:=by kernel_rfl
 i53:=by kernel_rfl
 i75:=by kernel_rfl
 i80:=by kernel_rfl
 i127:=by kernel_rfl
 i143:=by kernel_rfl
 i145:=by kernel_rfl
 i167:=by kernel_rfl
 i168:=by kernel_rfl
 i171:=by kernel_rfl
 i173:=by kernel_rfl
 i210:=by kernel_rfl
 i212:=by kernel_rfl
 i232:=by kernel_rfl
 i233:=by kernel_rfl
 m15:=by kernel_rfl
 m16:=by kernel_rfl
 m17:=by kernel_rfl
 m18:=by kernel_rfl
 m19:=by kernel_rfl
 c0:=by kernel_rfl
 c2:=by kernel_rfl
 c3:=by kernel_rfl
 c4:=by kernel_rfl
 c5:=by kernel_rfl
 c9:=by kernel_rfl
 c20:=by kernel_rfl
 c37:=by kernel_rfl
 c46:=by kernel_rfl
 c51:=by kernel_rfl
 c53:=by kernel_rfl
 c75:=by kernel_rfl
 c80:=by kernel_rfl
 c127:=by kernel_rfl
 c143:=by kernel_rfl
 c145:=by kernel_rfl
 c167:=by kernel_rfl
 c168:=by kernel_rfl
 c171:=by kernel_rfl
 c173:=by kernel_rfl
 c210:=by kernel_rfl
 c212:=by kernel_rfl
 c213:=by kernel_rfl
 c232:=by kernel_rfl
 c233:=by kernel_rfl
}
theorem ZH:Builder.Extra prog aHt:={
 sizeBuilder:=by kernel_rfl
 liesBuilder:=by kernel_rfl
 t5:=underlying5
 a5:=isAgg5
 z5:=sizeOf5
 v5:=zeroValue5
 infoByte:=by kernel_rfl
 cellsByte:=by kernel_rfl
 sizeByte:=by kernel_rfl
 neB5:=by decide
}
end Go.Proofs.YtncdpanfefnjlaaGreatDoor
namespace Go.Proofs.YtncdpanfefnjlaaGreatDoor
open Go.Proofs.Tryz
open Go Go.Maps Go.ChangeShapes Go.WideShapes Go.ChangeAt Go.RowKit
theorem xU:∀ (j n:Nat),vhL (j+1) n=vhC (n / 16 ^ j % 16)::vhL j n
 | 0,n=>by rw [Nat.pow_zero,Nat.div_one];rfl
 | j+1,n=>by
  rw [vhL,xU j (n / 16),Nat.div_div_eq_div_mul,show 16 * 16 ^ j=16 ^ (j+1) by rw [Dt,Nat.mul_comm]]
  rfl
theorem RW:∀ (k J n:Nat),n<16 ^ J→vhL (k+J) n=List.replicate k 48++vhL J n
 | 0,J,n,_=>by rw [Bv];rfl
 | k+1,J,n,h=>by
  have h2:n<16 ^ (k+J):=Ll h (Cf (by decide) (by omega))
  rw [show k+1+J=(k+J)+1 by omega,xU,Nat.div_eq_of_lt h2,RW k J n h]
  rfl
def DB (w:World):Prop:=w.cell? ⟨11,15,none⟩=some (.int .u8 4)
theorem DB.below {w w':World} (h:DB w) (hb:Below w.heap.size w w'):DB w':=(hb.cell (p:=⟨_,15,none⟩) (cD h)).trans h
theorem aEz (w:World) (h:DB w):Calls prog 202 #[.int .u64 16] w fun e w'=>e=.returned (Iz 4)∧w=w':=by
 have hc:w.cell? ⟨11,15,none⟩=some (.int .u8 4):=h;have q0:IntKind.u64.wrap (-16)=18446744073709551600:=by decide
 have q1:bits .and .u64 16 18446744073709551600=16:=by decide
 have q2:IntKind.u64.wrap 4573923408821661840=4573923408821661840:=by decide
 go_enter func202,ntmps202
 go_wp2
 go_ret
 exact ⟨rfl,rfl⟩
theorem aJf (w:World) (h:DB w):Calls prog 187 #[.int .u64 16] w fun e w'=>e=.returned (Iz 4)∧w=w':=by
 have T:=Hh (aEz w h)
 go_enter func187,ntmps187
 go_wp2_with (go_at_call 202;(with_reducible refine (T.o).mono ?_);rintro e w1 ⟨rfl,rfl⟩)
 go_ret
 exact ⟨rfl,rfl⟩
theorem aBw (w:World):Calls prog 186 #[Iz 16] w fun e w'=>e=.returned (.bool true)∧w=w':=by
 have q1:bits .and .i64 16 15=0:=by decide
 go_enter func186,ntmps186
 go_wp2
 go_ret
 exact ⟨rfl,rfl⟩
theorem LG (m:Nat) (h16:m<16) (h:m<ByteArray.size { data:=#[48,49,50,51,52,53,54,55,56,57,97,98,99,100,101,102,103,104,105,106,107,108,109,110,111,112,113,114,115,116,117,118,119,120,121,122] }):({ data:=#[48,49,50,51,52,53,54,55,56,57,97,98,99,100,101,102,103,104,105,106,107,108,109,110,111,112,113,114,115,116,117,118,119,120,121,122] }:Bt)[m]'h=vhC m:=by
 have all:∀m:Fin 16,∀h,({ data:=#[48,49,50,51,52,53,54,55,56,57,97,98,99,100,101,102,103,104,105,106,107,108,109,110,111,112,113,114,115,116,117,118,119,120,121,122] }:Bt)[m.val]'h=vhC m.val:=by decide
 exact all ⟨m,h16⟩ h
theorem UQ (n:Nat):bits .and .u64 (n:Int) 15=((n % 16:Nat):Int):=by
 have h15:(BitVec.ofInt 64 15).toNat=2 ^ 4 - 1:=by decide
 have key:(BitVec.ofInt 64 (n:Int) &&& BitVec.ofInt 64 15).toNat=((n:Int) % ((2 ^ 64:Nat):Int)).toNat % 2 ^ 4:=by
  rw [BitVec.toNat_and,BitVec.toNat_ofInt,h15,Nat.and_two_pow_sub_one_eq_mod]
 show IntKind.u64.wrap ((BitVec.ofInt 64 (n:Int) &&& BitVec.ofInt 64 15).toNat:Nat)=_
 rw [key,Bw];omega
theorem aCa {n j:Nat} (hn:n<16777216) (h:16≤n / 16 ^ j):16 ^ (j+1)≤n∧j+1≤5:=by
 have h1:16 * 16 ^ j≤n:=(Nat.le_div_iff_mul_le (Nat.pow_pos (by decide))).1 h
 have h2:16 ^ (j+1)≤n:=by rw [Dt,Nat.mul_comm];exact h1
 refine ⟨h2,?_⟩;rcases Cc (j+1) 6 with h3 | h3
 ·omega
 ·have:16 ^ 6≤16 ^ (j+1):=Cf (by decide) h3
  have e:16 ^ 6=16777216:=by decide
  omega
theorem aCb {n j:Nat} (h:¬16≤n / 16 ^ j):n<16 ^ (j+1):=by
 have:=(Nat.div_lt_iff_lt_mul (x:=n) (y:=16) (Nat.pow_pos (n:=j) (by decide:0<16))).1 (by omega)
 rwa [Dt,Nat.mul_comm]
theorem EM {P:Program} (t e:TypeId) (n g l:Nat) (li:Int) (hli:li=(l:Int)) (hl:l<n) (hu:P.underlying t=some (.array n e)) (hsz:∀w,(sizeOf e).run P w=.ok 1 w) (w:World) :
 (Instr.sliceAt t (.pointer (some ⟨g,0,none⟩)) (some (Iz li)) none none).run P w=.ok (.slice (some ⟨g,l,none⟩) (n - l) (n - l)) w:=by
 subst hli;have ha:P.arrayLen t=n:=by simp [Program.arrayLen,hu]
 have he:P.elem t=e:=by simp [Program.elem,hu]
 rw [run_sliceAt_array_l w t ⟨g,0,none⟩ (by rw [ha,he];exact hu) .i64 (l:Int) (by omega) (by rw [ha];omega),he,hsz]
 have hne:¬n=l:=by omega
 simp [Result.andThen,slicedAt,ha,hne,Bn]
def FbA (w:World) (g j n:Nat):Prop:=Arr w g 237 (List.replicate (65 - j) (.int .u8 0)++aS (vhL j n))
theorem FbA.step {w:World} {g j n:Nat} (h:FbA w g j n) (hj:j<65):FbA (w.setCell ⟨g,64 - j,none⟩ (.int .u8 ((vhC (n / 16 ^ j % 16)).toNat:Int))) g (j+1) n:=by
 unfold FbA at h ⊢;have:=h.store (64 - j) (.int .u8 ((vhC (n / 16 ^ j % 16)).toNat:Int));rw [xU];have e:(List.replicate (65 - j) (Value.int .u8 0)++aS (vhL j n)).set (64 - j) (.int .u8 ((vhC (n / 16 ^ j % 16)).toNat:Int))=List.replicate (65 - (j+1)) (.int .u8 0)++aS (vhC (n / 16 ^ j % 16)::vhL j n):=by
  rw [show 65 - j=(64 - j)+1 by omega,List.replicate_succ',Aj,Cz _ _ (by simp),Ds,Nat.sub_self]
  show _++(_::aS (vhL j n))=_
  rw [show 65 - (j+1)=64 - j by omega]
  rfl
 rw [←e];exact this
def TU (n:Nat) (l:Ub):Prop:=∃J,1≤J∧l=vhL J n∧n<16 ^ J∧(J=1∨16 ^ (J - 1)≤n)
theorem XY (n:Nat) (hn:n<16777216) (w:World) (hT:DB w):Calls prog 159 #[Sn,.int .u64 (n:Int),Iz 16,.bool false,.bool false] w fun e w'=>(∃l,TU n l∧e=.returned (.tuple #[Sn,.string ⟨l.toArray⟩]))∧Below w.heap.size w w':=by
 have IP:=Hh (fun wx:World=>aBw wx)
 have z0:zeroCells237=(List.replicate 65 (.int .u8 0)).toArray:=by rfl
 have k0:FbA (w.alloc (.cells zeroCells237 237)) w.heap.size 0 n:=by
  unfold FbA;rw [z0];exact Arr.new _ _ _
 have b0:=(Br w.heap.size w).alloc (o:=.cells zeroCells237 237) (Lr _);have TZ:=Hh (aJf (w.alloc (.cells zeroCells237 237)) (hT.below b0));have K0:=Hh k0;have B0:=Hh b0;clear k0 b0 hT z0
 go_enter func159,ntmps159
 go_upto_region 4 with fail
 generalize w.alloc _=w1 at TZ K0 B0 ⊢;have hg:w.heap.size≤w.heap.size:=Lr _;obtain ⟨g,hgg⟩:∃g,g=w.heap.size:=⟨_,rfl⟩;rw [←hgg] at K0 ⊢;have HG:Hid (w.heap.size≤g):=Hh (by omega)
 clear hgg hg
 go_upto_region 11 with (first
  | (go_at_call 186;(with_reducible refine (IP.o _).mono ?_);rintro e w2 ⟨rfl,rfl⟩)
  | (go_at_call 187;(with_reducible refine (TZ.o).mono ?_);rintro e w2 ⟨rfl,rfl⟩))
 go_loopw [1,13] (fun vu vi wr=>∃ (j q:Nat) (z:Int),vu=.int .u64 z∧vi=Iz (q:Int)∧q+j=65∧j≤5∧Hid (z=((n / 16 ^ j:Nat):Int)∧(j=0∨16 ^ j≤n))∧FbA wr g j n∧Below w.heap.size w wr) (fun _ vi _=>(intOf vi).toNat)
 case atStart=>exact ⟨0,65,_,rfl,rfl,rfl,by omega,Hh ⟨by rw [Nat.pow_zero,Nat.div_one],.inl rfl⟩,K0.o,B0.o⟩
 case round=>
  obtain ⟨j,q,z,rfl,rfl,hqj,hj5,hz,hA,hb⟩:=hrel;obtain ⟨p,rfl⟩:∃p,q=p+1:=⟨q - 1,by omega⟩
  have hc:=hA.cellAt (j:=p) (u:=.int .u8 0) (by rw [Cq (by simp;omega),List.getElem?_replicate,Am (by omega)])
  have hf:=hA.free p;have hAs:=hA.step (by omega)
  rw [show 64 - j=p by omega] at hAs
  have hz1:0≤z∧z<16777216:=by
   have h1:=hz.o.1;have h2:n / 16 ^ j≤n:=Nat.div_le_self _ _;generalize n / 16 ^ j=d0 at h1 h2;omega
  have hand:bits .and .u64 z 15=((n / 16 ^ j % 16:Nat):Int):=by rw [hz.o.1];exact UQ _
  have hd16:n / 16 ^ j % 16<16:=Nat.mod_lt _ (by decide)
  have HS:=Hh (Ai hAs (hb.grown (jI wr g p (.int .u8 ((vhC (n / 16 ^ j % 16)).toNat:Int))) hb.size (fun k hk=>by cases hk;exact HG.o)))
  obtain ⟨d,hd⟩:∃d,d=n / 16 ^ j % 16:=⟨_,rfl⟩;have e1:((p+1:Nat):Int) - 1=(p:Int):=by omega
  have hp65:(p:Int)<65:=by omega
  have hp0:(0:Int)≤(p:Int):=by omega
  have HQ:=Hh hqj;have h16e:(16≤z→16≤n / 16 ^ j)∧(¬16≤z→¬16≤n / 16 ^ j∧(n / 16 ^ j % 16:Nat)=z.toNat):=by
   have h1:=hz.o.1;generalize n / 16 ^ j=d0 at h1;omega
  by_cases h16:16≤z
  ·have HN:=Hh (aCa hn (h16e.1 h16))
   have HZ:Hid (z / 16=((n / 16 ^ (j+1):Nat):Int)):=Hh (by rw [hz.o.1,Dt,←Nat.div_div_eq_div_mul,Int.natCast_ediv];rfl)
   rw [←hd] at hand hd16 HS;have ha:=LG d hd16;clear hd hAs hA hb hz hqj hn h16e
   go_wp2
   go_roundw
   case rel=>exact ⟨j+1,p,_,rfl,by go_num,by have:=HQ.o;omega,HN.o.2,Hh ⟨HZ.o,.inr HN.o.1⟩,HS.o.1,HS.o.2⟩
   case measure=>simp [intOf]
  ·obtain ⟨h17,hdz⟩:=h16e.2 h16
   rw [←hd] at hdz hd16 HS;have hzd:z=(d:Int):=by omega
   subst hzd;have ha:=LG d hd16;have HL:=Hh (aCb h17);have hcv:=run_convert_bytes_back (P:=prog) (wr.setCell ⟨g,p,none⟩ (.int .u8 ((vhC d).toNat:Int))) 69 9 5 ⟨g,p,none⟩ (65 - p) (vhL (j+1) n) underlying69 underlying5 underlying9 (fun i hi=>by
    rw [Bn];rw [dG] at hi;refine HS.o.1.cellAt (j:=p+i) ?_;rw [Dl (by simp;omega),Ds,show p+i - (65 - (j+1))=i by omega]
    unfold aS;rw [Bc,Ac (by rw [dG];exact hi)]
    rfl)
   rw [dG] at hcv;have hsl:=EM (P:=prog) 237 5 65 g p (p:Int) rfl (by omega) underlying237 sizeOf5
   rw [show 65 - p=j+1 by omega] at hcv hsl
   have HZ:=Hh hz.o.2;clear hd hAs hA hb hz hqj hn h17 hdz
   go_wp2
   go_ret2
   exact ⟨⟨vhL (j+1) n,⟨j+1,by omega,rfl,HL.o,by rcases HZ.o with rfl | h;exact .inl rfl;exact .inr h⟩,rfl⟩,HS.o.2⟩
theorem XH (n:Nat) (hn:n<16777216) (w:World) (hT:DB w):Calls prog 137 #[Iz (n:Int),Iz 16] w fun e w'=>(∃l,TU n l∧e=.returned (.string ⟨l.toArray⟩))∧Below w.heap.size w w':=by
 have FB:=Hh (XY n hn w hT);have h0:¬ (n:Int)<0:=by omega
 go_enter func137,ntmps137
 go_wp2_with (go_at_call 159;(with_reducible refine (FB.o).mono ?_);rintro e w1 ⟨⟨l,hl,rfl⟩,hb⟩)
 go_ret
 exact ⟨⟨l,hl,rfl⟩,hb⟩
theorem aCo (n:Nat) (hn:n<16777216) (w:World) (hT:DB w):Calls prog 117 #[Iz (n:Int),Iz 16] w fun e w'=>(∃l,TU n l∧e=.returned (.string ⟨l.toArray⟩))∧Below w.heap.size w w':=by
 have FB:=Hh (XH n hn w hT)
 go_enter func117,ntmps117
 go_wp2_with (go_at_call 137;(with_reducible refine (FB.o).mono ?_);rintro e w1 ⟨⟨l,hl,rfl⟩,hb⟩)
 go_ret
 exact ⟨⟨l,hl,rfl⟩,hb⟩
theorem aAc (c:Nat):Lib.repeatL [48] c=List.replicate c (48:UInt8):=by
 induction c with
 | zero=>rfl
 | succ c ih=>rw [List.replicate_succ,←ih];rfl
theorem XK {n k:Nat} {l:Ub} (h:TU n l) (hk:n<16 ^ k) (h1:1≤k):l.length≤k∧vhL k n=List.replicate (k - l.length) 48++l:=by
 obtain ⟨J,hJ1,rfl,hJ2,hJ3⟩:=h;have hJk:J≤k:=by
  rcases hJ3 with rfl | h
  ·exact h1
  ·have:J - 1<k:=(Nat.pow_lt_pow_iff_right (by decide:1<16)).1 (Nat.lt_of_le_of_lt h hk)
   omega
 rw [dG];refine ⟨hJk,?_⟩;have:=RW (k - J) J n hJ2
 rwa [show k - J+J=k by omega] at this
theorem aBz (n k:Nat) (z:Int) (hz:(k:Int)=z) (hn:n<16777216) (hk:n<16 ^ k) (h1:1≤k) (h6:k≤6) (w:World) (hT:DB w):Calls prog 87 #[Iz (n:Int),Iz z] w fun e w'=>e=.returned (.string ⟨(vhL k n).toArray⟩)∧Below w.heap.size w w':=by
 have FI:=Hh (aCo n hn w hT);have RE:Hid (∀ (c:Nat) (y:Int) (wx:World),(c:Int)=y→c≤6→Calls prog 33 #[.string ⟨#[48]⟩,Iz y] wx fun e w'=>e=.returned (.string ⟨(List.replicate c (48:UInt8)).toArray⟩)∧Below wx.heap.size wx w'):=Hh (fun c y wx hc h6=>by
  subst hc;have:=Any.strings_Repeat IZ ZH ⟨#[48]⟩ c wx (by omega) (by show 1 * c≤_;omega)
  rw [show (⟨#[48]⟩:Bt).data.toList=[48] from rfl,aAc] at this
  exact this)
 clear hT
 go_enter func87,ntmps87
 go_upto_region 2 with ((with_reducible refine (FI.o).mono ?_);rintro e w1 ⟨⟨l,hl,rfl⟩,hb⟩)
 obtain ⟨hlk,hpad⟩:=XK hl hk h1;obtain ⟨c,hc⟩:∃c,c=k - l.length:=⟨_,rfl⟩;obtain ⟨sl,hsl⟩:∃sl:Bt,sl=⟨l.toArray⟩:=⟨_,rfl⟩;obtain ⟨rs,hrs⟩:∃rs:Bt,rs=⟨(List.replicate c (48:UInt8)).toArray⟩:=⟨_,rfl⟩;have hsz:sl.size=l.length:=by rw [hsl];show l.toArray.size=_;simp
 have hcs:rs.size=c:=by rw [hrs];show (List.replicate c (48:UInt8)).toArray.size=_;simp
 have hd:z - (sl.size:Int)=(c:Int):=by rw [hsz];omega
 rw [←hc] at hpad;have hcat:rs++sl=⟨(vhL k n).toArray⟩:=by rw [hpad,hrs,hsl];apply Cp;simp
 have R2:Hid (∀wx:World,Calls prog 33 #[.string ⟨#[48]⟩,Iz (c:Int)] wx fun e w'=>e=.returned (.string rs)∧Below wx.heap.size wx w'):=Hh (fun wx=>by rw [hrs];exact RE.o c _ wx rfl (by omega))
 have hlim:¬9223372036854775807<rs.size+sl.size:=by omega
 have hw:IntKind.i64.wrap (c:Int)=(c:Int):=w64 _ (by omega)
 have HC:=Hh hcat;have HB:=Hh hb;rw [←hsl];clear FI RE hl hk h1 hlk hpad hc hb hsl hrs hsz hcs hcat
 go_wp2_with (go_at_call 33;(with_reducible refine (R2.o _).mono ?_);rintro e w2 ⟨rfl,hb2⟩)
 go_ret
 exact ⟨by rw [←HC.o];rfl,HB.o.trans (hb2.mono HB.o.size)⟩
end Go.Proofs.YtncdpanfefnjlaaGreatDoor