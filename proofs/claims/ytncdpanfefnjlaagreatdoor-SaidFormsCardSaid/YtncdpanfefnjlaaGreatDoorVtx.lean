import Derived.Test.YtncdpanfefnjlaaGreatDoorProg
import Derived.Test.YtncdpanfefnjlaaGreatDoorRows
import Derived.Test.YtncdpanfefnjlaaGreatDoorHashb
import Derived.Test.YtncdpanfefnjlaaGreatDoorVpr
set_option linter.unusedVariables false
set_option linter.unusedSimpArgs false
set_option maxRecDepth 1000000
set_option maxHeartbeats 6400000
namespace Go.Proofs.YtncdpanfefnjlaaGreatDoor
open Go.Proofs.Tryz
open Go.Shelf Go.RowKit Go.Lib
def aJj:Go.Shelf.Ren:=⟨fun | 99=>60 | 105=>33 | 129=>184 | 165=>61 | 166=>62 | 169=>64 | 170=>63 | 171=>99 | 205=>182 | 206=>94 | 212=>59 | 240=>95 | 241=>96 | 243=>121 | 245=>136 | 246=>137 | 263=>92 | 264=>93 | 276=>118 | 277=>119 | 279=>152 | 280=>153 | 281=>154 | 282=>155 | 283=>156 | 284=>157 | 285=>158 | 286=>159 | 316=>181 | 317=>183 | 318=>185 | 319=>186 | 320=>187 | 337=>201 | 338=>202 | n=>n,fun | 0=>0 | 2=>2 | 3=>3 | 4=>4 | 5=>5 | 9=>9 | 20=>20 | 37=>69 | 46=>85 | 51=>106 | 53=>130 | 70=>89 | 72=>91 | 75=>94 | 76=>95 | 80=>44 | 109=>86 | 127=>133 | 143=>253 | 145=>255 | 146=>128 | 148=>131 | 164=>154 | 167=>194 | 168=>197 | 171=>200 | 173=>203 | 210=>233 | 212=>236 | 213=>237 | 232=>109 | 233=>259 | n=>n,fun | 15=>6 | 16=>7 | 17=>8 | 18=>10 | 19=>11 | n=>n⟩
theorem KQ:Go.Proofs.Lays.n105 prog aJj:={
 mixed:=by kernel_rfl
 f99:=Tryz.func60.trans (Ad some (by kernel_rfl))
 f105:=Tryz.func33.trans (Ad some (by kernel_rfl))
 f165:=Tryz.func61.trans (Ad some (by kernel_rfl))
 f166:=Tryz.func62.trans (Ad some (by kernel_rfl))
 f169:=Tryz.func64.trans (Ad some (by kernel_rfl))
 f170:=Tryz.func63.trans (Ad some (by kernel_rfl))
 f206:=Tryz.func94.trans (Ad some (by kernel_rfl))
 f212:=Tryz.func59.trans (Ad some (by kernel_rfl))
 f240:=Tryz.func95.trans (Ad some (by kernel_rfl))
 f241:=Tryz.func96.trans (Ad some (by kernel_rfl))
 f263:=Tryz.func92.trans (Ad some (by kernel_rfl))
 f264:=Tryz.func93.trans (Ad some (by kernel_rfl))
 f276:=Tryz.func118.trans (Ad some (by kernel_rfl))
 f277:=Tryz.func119.trans (Ad some (by kernel_rfl))
 t0:=underlying0
 a0:=isAgg0
 z0:=sizeOf0
 v0:=zeroValue0
 t3:=underlying3
 a3:=isAgg3
 z3:=sizeOf3
 v3:=zeroValue3
 t4:=underlying4
 a4:=isAgg4
 z4:=sizeOf4
 v4:=zeroValue4
 t5:=underlying5
 a5:=isAgg5
 z5:=sizeOf5
 v5:=zeroValue5
 t9:=underlying9
 a9:=isAgg9
 z9:=sizeOf9
 v9:=zeroValue9
 t20:=underlying20
 a20:=isAgg20
 z20:=sizeOf20
 v20:=zeroValue20
 t37:=underlying69
 a37:=isAgg69
 z37:=sizeOf69
 v37:=zeroValue69
 t46:=underlying85
 a46:=isAgg85
 z46:=sizeOf85
 v46:=zeroValue85
 t51:=underlying106
 a51:=isAgg106
 z51:=sizeOf106
 v51:=zeroValue106
 t53:=underlying130
 a53:=isAgg130
 z53:=sizeOf130
 v53:=zeroValue130
 t70:=underlying89
 a70:=isAgg89
 z70:=sizeOf89
 v70:=zeroValue89
 t72:=underlying91
 a72:=isAgg91
 z72:=sizeOf91
 v72:=zeroValue91
 t75:=underlying94
 a75:=isAgg94
 z75:=sizeOf94
 v75:=zeroValue94
 t76:=underlying95
 a76:=isAgg95
 z76:=sizeOf95
 v76:=zeroValue95
 t109:=underlying86
 a109:=isAgg86
 z109:=sizeOf86
 v109:=zeroValue86
 t127:=underlying133
 a127:=isAgg133
 z127:=sizeOf133
 v127:=zeroValue133
 t146:=underlying128
 a146:=isAgg128
 z146:=sizeOf128
 v146:=zeroValue128
 t148:=underlying131
 a148:=isAgg131
 z148:=sizeOf131
 v148:=zeroValue131
 t164:=underlying154
 a164:=isAgg154
 z164:=sizeOf154
 v164:=zeroValue154
}
theorem aAt:Go.Proofs.LaysC.n245 prog aJj:={
 mixed:=by kernel_rfl
 f129:=Tryz.func184.trans (Ad some (by kernel_rfl))
 f171:=Tryz.func99.trans (Ad some (by kernel_rfl))
 f205:=Tryz.func182.trans (Ad some (by kernel_rfl))
 f243:=Tryz.func121.trans (Ad some (by kernel_rfl))
 f245:=Tryz.func136.trans (Ad some (by kernel_rfl))
 f246:=Tryz.func137.trans (Ad some (by kernel_rfl))
 f279:=Tryz.func152.trans (Ad some (by kernel_rfl))
 f280:=Tryz.func153.trans (Ad some (by kernel_rfl))
 f281:=Tryz.func154.trans (Ad some (by kernel_rfl))
 f282:=Tryz.func155.trans (Ad some (by kernel_rfl))
 f283:=Tryz.func156.trans (Ad some (by kernel_rfl))
 f284:=Tryz.func157.trans (Ad some (by kernel_rfl))
 f285:=Tryz.func158.trans (Ad some (by kernel_rfl))
 f286:=Tryz.func159.trans (Ad some (by kernel_rfl))
 f316:=Tryz.func181.trans (Ad some (by kernel_rfl))
 f317:=Tryz.func183.trans (Ad some (by kernel_rfl))
 f318:=Tryz.func185.trans (Ad some (by kernel_rfl))
 f319:=Tryz.func186.trans (Ad some (by kernel_rfl))
 f320:=Tryz.func187.trans (Ad some (by kernel_rfl))
 f337:=Tryz.func201.trans (Ad some (by kernel_rfl))
 f338:=Tryz.func202.trans (Ad some (by kernel_rfl))
 t0:=underlying0
 a0:=isAgg0
 z0:=sizeOf0
 v0:=zeroValue0
 t2:=underlying2
 a2:=isAgg2
 z2:=sizeOf2
 v2:=zeroValue2
 t3:=underlying3
 a3:=isAgg3
 z3:=sizeOf3
 v3:=zeroValue3
 t4:=underlying4
 a4:=isAgg4
 z4:=sizeOf4
 v4:=zeroValue4
 t5:=underlying5
 a5:=isAgg5
 z5:=sizeOf5
 v5:=zeroValue5
 t9:=underlying9
 a9:=isAgg9
 z9:=sizeOf9
 v9:=zeroValue9
 t20:=underlying20
 a20:=isAgg20
 z20:=sizeOf20
 v20:=zeroValue20
 t37:=underlying69
 a37:=isAgg69
 z37:=sizeOf69
 v37:=zeroValue69
 t46:=underlying85
 a46:=isAgg85
 z46:=sizeOf85
 v46:=zeroValue85
 t51:=underlying106
 a51:=isAgg106
 z51:=sizeOf106
 v51:=zeroValue106
 t53:=underlying130
 a53:=isAgg130
 z53:=sizeOf130
 v53:=zeroValue130
 t75:=underlying94
 a75:=isAgg94
 z75:=sizeOf94
 v75:=zeroValue94
 t127:=underlying133
 a127:=isAgg133
 z127:=sizeOf133
 v127:=zeroValue133
 t143:=underlying253
 a143:=isAgg253
 z143:=sizeOf253
 v143:=zeroValue253
 t145:=underlying255
 a145:=isAgg255
 z145:=sizeOf255
 v145:=zeroValue255
 t167:=underlying194
 a167:=isAgg194
 z167:=sizeOf194
 v167:=zeroValue194
 t168:=underlying197
 a168:=isAgg197
 z168:=sizeOf197
 v168:=zeroValue197
 t171:=underlying200
 a171:=isAgg200
 z171:=sizeOf200
 v171:=zeroValue200
 t173:=underlying203
 a173:=isAgg203
 z173:=sizeOf203
 v173:=zeroValue203
 t210:=underlying233
 a210:=isAgg233
 z210:=sizeOf233
 v210:=zeroValue233
 t212:=underlying236
 a212:=isAgg236
 z212:=sizeOf236
 v212:=zeroValue236
 t213:=underlying237
 a213:=isAgg237
 z213:=sizeOf237
 t232:=underlying109
 a232:=isAgg109
 z232:=sizeOf109
 v232:=zeroValue109
 t233:=underlying259
 a233:=isAgg259
 z233:=sizeOf259
 v233:=zeroValue259
 g15:=by kernel_rfl
 g16:=by kernel_rfl
 g17:=by kernel_rfl
 g18:=by kernel_rfl
 g19:=by kernel_rfl
 t80:=underlying44
 a80:=isAgg44
 z80:=sizeOf44
 v80:=zeroValue44
 i0:=by kernel_rfl
 i2:=by kernel_rfl
 i3:=by kernel_rfl
 i4:=by kernel_rfl
 i5:=by kernel_rfl
 i9:=by kernel_rfl
 i20:=by kernel_rfl
 i37:=by kernel_rfl
 i46:=by kernel_rfl
 i51:=by kernel_rfl
 i53:=by kernel_rfl
 i75:=by kernel_rfl
 i80:=by kernel_rfl
 i127:=by kernel_rfl
 i143:=by kernel_rfl
 i145:=by kernel_rfl
 i167:=by kernel_rfl
 i168:=by kernel_rfl
 i171:=by kernel_rfl
 i173:=by kernel_rfl
 i210:=by kernel_rfl
 i212:=by kernel_rfl
 i232:=by kernel_rfl
 i233:=by kernel_rfl
 m15:=by kernel_rfl
 m16:=by kernel_rfl
 m17:=by kernel_rfl
 m18:=by kernel_rfl
 m19:=by kernel_rfl
 c0:=by kernel_rfl
 c2:=by kernel_rfl
 c3:=by kernel_rfl
 c4:=by kernel_rfl
 c5:=by kernel_rfl
 c9:=by kernel_rfl
 c20:=by kernel_rfl
 c37:=by kernel_rfl
 c46:=by kernel_rfl
 c51:=by kernel_rfl
 c53:=by kernel_rfl
 c75:=by kernel_rfl
 c80:=by kernel_rfl
 c127:=by kernel_rfl
 c143:=by kernel_rfl
 c145:=by kernel_rfl
 c167:=by kernel_rfl
 c168:=by kernel_rfl
 c171:=by kernel_rfl
 c173:=by kernel_rfl
 c210:=by kernel_rfl
 c212:=by kernel_rfl
 c213:=by kernel_rfl
 c232:=by kernel_rfl
 c233:=by kernel_rfl
}
theorem aAx:Builder.Extra prog aJj:={
 sizeBuilder:=by kernel_rfl
 liesBuilder:=by kernel_rfl
 t5:=underlying5
 a5:=isAgg5
 z5:=sizeOf5
 v5:=zeroValue5
 infoByte:=by kernel_rfl
 cellsByte:=by kernel_rfl
 sizeByte:=by kernel_rfl
 neB5:=by decide
}
end Go.Proofs.YtncdpanfefnjlaaGreatDoor
namespace Go.Proofs.YtncdpanfefnjlaaGreatDoor
open Go.Proofs.Tryz
open Go Go.Maps Go.ChangeShapes Go.WideShapes Go.ChangeAt Go.RowKit
theorem zA:∀ (j n:Nat),vhL (j+1) n=vhC (n / 16 ^ j % 16)::vhL j n
 | 0,n=>by rw [Nat.pow_zero,Nat.div_one];rfl
 | j+1,n=>by
  rw [vhL,zA j (n / 16),Nat.div_div_eq_div_mul,show 16 * 16 ^ j=16 ^ (j+1) by rw [Dz,Nat.mul_comm]]
  rfl
theorem UB:∀ (k J n:Nat),n<16 ^ J→vhL (k+J) n=List.replicate k 48++vhL J n
 | 0,J,n,_=>by rw [Ca];rfl
 | k+1,J,n,h=>by
  have a:n<16 ^ (k+J):=Ll h (Ch (by decide) (by omega))
  rw [show k+1+J=(k+J)+1 by omega,zA,Nat.div_eq_of_lt a,UB k J n h]
  rfl
def DB (w:World):Prop:=w.cell? ⟨11,15,none⟩=some (.int .u8 4)
theorem DB.below {w w':World} (h:DB w) (a:Below w.heap.size w w'):DB w':=(a.cell (p:=⟨_,15,none⟩) (cD h)).trans h
theorem aGm (w:World) (h:DB w):Calls prog 202 #[.int .u64 16] w fun e w'=>e=.returned (Iz 4)∧w=w':=by
 have a:w.cell? ⟨11,15,none⟩=some (.int .u8 4):=h;have b:IntKind.u64.wrap (-16)=18446744073709551600:=by decide
 have c:bits .and .u64 16 18446744073709551600=16:=by decide
 have d:IntKind.u64.wrap 4573923408821661840=4573923408821661840:=by decide
 go_enter func202,ntmps202
 go_wp2
 go_ret
 exact ⟨rfl,rfl⟩
theorem aKv (w:World) (h:DB w):Calls prog 187 #[.int .u64 16] w fun e w'=>e=.returned (Iz 4)∧w=w':=by
 have T:=Hh (aGm w h)
 go_enter func187,ntmps187
 go_wp2_with (go_at_call 202;(with_reducible refine (T.o).mono ?_);rintro e a ⟨rfl,rfl⟩)
 go_ret
 exact ⟨rfl,rfl⟩
theorem aDn (w:World):Calls prog 186 #[Iz 16] w fun e w'=>e=.returned (.bool true)∧w=w':=by
 have a:bits .and .i64 16 15=0:=by decide
 go_enter func186,ntmps186
 go_wp2
 go_ret
 exact ⟨rfl,rfl⟩
theorem MY (m:Nat) (a:m<16) (h:m<ByteArray.size { data:=#[48,49,50,51,52,53,54,55,56,57,97,98,99,100,101,102,103,104,105,106,107,108,109,110,111,112,113,114,115,116,117,118,119,120,121,122] }):({ data:=#[48,49,50,51,52,53,54,55,56,57,97,98,99,100,101,102,103,104,105,106,107,108,109,110,111,112,113,114,115,116,117,118,119,120,121,122] }:Bt)[m]'h=vhC m:=by
 have b:∀m:Fin 16,∀h,({ data:=#[48,49,50,51,52,53,54,55,56,57,97,98,99,100,101,102,103,104,105,106,107,108,109,110,111,112,113,114,115,116,117,118,119,120,121,122] }:Bt)[m.val]'h=vhC m.val:=by decide
 exact b ⟨m,a⟩ h
theorem WM (n:Nat):bits .and .u64 (n:Int) 15=((n % 16:Nat):Int):=by
 have b:(BitVec.ofInt 64 15).toNat=2 ^ 4 - 1:=by decide
 have a:(BitVec.ofInt 64 (n:Int) &&& BitVec.ofInt 64 15).toNat=((n:Int) % ((2 ^ 64:Nat):Int)).toNat % 2 ^ 4:=by
  rw [BitVec.toNat_and,BitVec.toNat_ofInt,b,Nat.and_two_pow_sub_one_eq_mod]
 show IntKind.u64.wrap ((BitVec.ofInt 64 (n:Int) &&& BitVec.ofInt 64 15).toNat:Nat)=_
 rw [a,Bi];omega
theorem aDr {n j:Nat} (d:n<16777216) (h:16≤n / 16 ^ j):16 ^ (j+1)≤n∧j+1≤5:=by
 have b:16 * 16 ^ j≤n:=(Nat.le_div_iff_mul_le (Nat.pow_pos (by decide))).1 h
 have c:16 ^ (j+1)≤n:=by rw [Dz,Nat.mul_comm];exact b
 refine ⟨c,?_⟩;rcases Cf (j+1) 6 with a | a
 ·omega
 ·have:16 ^ 6≤16 ^ (j+1):=Ch (by decide) a
  have e:16 ^ 6=16777216:=by decide
  omega
theorem aDs {n j:Nat} (h:¬16≤n / 16 ^ j):n<16 ^ (j+1):=by
 have:=(Nat.div_lt_iff_lt_mul (x:=n) (y:=16) (Nat.pow_pos (n:=j) (by decide:0<16))).1 (by omega)
 rwa [Dz,Nat.mul_comm]
theorem GL {P:Program} (t e:TypeId) (n g l:Nat) (h:Int) (a:h=(l:Int)) (j:l<n) (b:P.underlying t=some (.array n e)) (d:∀w,(sizeOf e).run P w=.ok 1 w) (w:World) :
 (Instr.sliceAt t (.pointer (some ⟨g,0,none⟩)) (some (Iz h)) none none).run P w=.ok (.slice (some ⟨g,l,none⟩) (n - l) (n - l)) w:=by
 subst a;have f:P.arrayLen t=n:=by simp [Program.arrayLen,b]
 have i:P.elem t=e:=by simp [Program.elem,b]
 rw [run_sliceAt_array_l w t ⟨g,0,none⟩ (by rw [f,i];exact b) .i64 (l:Int) (by omega) (by rw [f];omega),i,d]
 have c:¬n=l:=by omega
 simp [Result.andThen,slicedAt,f,c,Bs]
def FbA (w:World) (g j n:Nat):Prop:=Arr w g 237 (List.replicate (65 - j) (.int .u8 0)++aS (vhL j n))
theorem FbA.step {w:World} {g j n:Nat} (h:FbA w g j n) (a:j<65):FbA (w.setCell ⟨g,64 - j,none⟩ (.int .u8 ((vhC (n / 16 ^ j % 16)).toNat:Int))) g (j+1) n:=by
 unfold FbA at h ⊢;have:=h.store (64 - j) (.int .u8 ((vhC (n / 16 ^ j % 16)).toNat:Int));rw [zA];have e:(List.replicate (65 - j) (Value.int .u8 0)++aS (vhL j n)).set (64 - j) (.int .u8 ((vhC (n / 16 ^ j % 16)).toNat:Int))=List.replicate (65 - (j+1)) (.int .u8 0)++aS (vhC (n / 16 ^ j % 16)::vhL j n):=by
  rw [show 65 - j=(64 - j)+1 by omega,List.replicate_succ',Aj,Df _ _ (by simp),Dy,Nat.sub_self]
  show _++(_::aS (vhL j n))=_
  rw [show 65 - (j+1)=64 - j by omega]
  rfl
 rw [←e];exact this
def VJ (n:Nat) (l:Ub):Prop:=∃J,1≤J∧l=vhL J n∧n<16 ^ J∧(J=1∨16 ^ (J - 1)≤n)
theorem ZO (n:Nat) (G:n<16777216) (w:World) (T:DB w):Calls prog 159 #[Sn,.int .u64 (n:Int),Iz 16,.bool false,.bool false] w fun e w'=>(∃l,VJ n l∧e=.returned (.tuple #[Sn,.string ⟨l.toArray⟩]))∧Below w.heap.size w w':=by
 have Z:=Hh (fun wx:World=>aDn wx)
 have Q:zeroCells237=(List.replicate 65 (.int .u8 0)).toArray:=by rfl
 have N:FbA (w.alloc (.cells zeroCells237 237)) w.heap.size 0 n:=by
  unfold FbA;rw [Q];exact Arr.new _ _ _
 have H:=(Br w.heap.size w).alloc (o:=.cells zeroCells237 237) (Lr _);have O:=Hh (aKv (w.alloc (.cells zeroCells237 237)) (T.below H));have F:=Hh N;have U:=Hh H;clear N H T Q
 go_enter func159,ntmps159
 go_upto_region 4 with fail
 generalize w.alloc _=w1 at O F U ⊢;have hg:w.heap.size≤w.heap.size:=Lr _;obtain ⟨g,B⟩:∃g,g=w.heap.size:=⟨_,rfl⟩;rw [←B] at F ⊢;have HG:Hid (w.heap.size≤g):=Hh (by omega)
 clear B hg
 go_upto_region 11 with (first
  | (go_at_call 186;(with_reducible refine (Z.o _).mono ?_);rintro e X ⟨rfl,rfl⟩)
  | (go_at_call 187;(with_reducible refine (O.o).mono ?_);rintro e X ⟨rfl,rfl⟩))
 go_loopw [1,13] (fun V J wr=>∃ (j q:Nat) (z:Int),V=.int .u64 z∧J=Iz (q:Int)∧q+j=65∧j≤5∧Hid (z=((n / 16 ^ j:Nat):Int)∧(j=0∨16 ^ j≤n))∧FbA wr g j n∧Below w.heap.size w wr) (fun _ J _=>(intOf J).toNat)
 case atStart=>exact ⟨0,65,_,rfl,rfl,rfl,by omega,Hh ⟨by rw [Nat.pow_zero,Nat.div_one],.inl rfl⟩,F.o,U.o⟩
 case round=>
  obtain ⟨j,q,z,rfl,rfl,f,xb,m,A,C⟩:=hrel;obtain ⟨p,rfl⟩:∃p,q=p+1:=⟨q - 1,by omega⟩
  have hc:=A.cellAt (j:=p) (u:=.int .u8 0) (by rw [Cs (by simp;omega),List.getElem?_replicate,Am (by omega)])
  have hf:=A.free p;have c:=A.step (by omega)
  rw [show 64 - j=p by omega] at c
  have xa:0≤z∧z<16777216:=by
   have E:=m.o.1;have Y:n / 16 ^ j≤n:=Nat.div_le_self _ _;generalize n / 16 ^ j=d0 at E Y;omega
  have s:bits .and .u64 z 15=((n / 16 ^ j % 16:Nat):Int):=by rw [m.o.1];exact WM _
  have a:n / 16 ^ j % 16<16:=Nat.mod_lt _ (by decide)
  have r:=Hh (Ai c (C.grown (jT wr g p (.int .u8 ((vhC (n / 16 ^ j % 16)).toNat:Int))) C.size (fun k hk=>by cases hk;exact HG.o)))
  obtain ⟨d,D⟩:∃d,d=n / 16 ^ j % 16:=⟨_,rfl⟩;have e1:((p+1:Nat):Int) - 1=(p:Int):=by omega
  have S:(p:Int)<65:=by omega
  have xc:(0:Int)≤(p:Int):=by omega
  have W:=Hh f;have b:(16≤z→16≤n / 16 ^ j)∧(¬16≤z→¬16≤n / 16 ^ j∧(n / 16 ^ j % 16:Nat)=z.toNat):=by
   have E:=m.o.1;generalize n / 16 ^ j=d0 at E;omega
  by_cases y:16≤z
  ·have M:=Hh (aDr G (b.1 y))
   have L:Hid (z / 16=((n / 16 ^ (j+1):Nat):Int)):=Hh (by rw [m.o.1,Dz,←Nat.div_div_eq_div_mul,Int.natCast_ediv];rfl)
   rw [←D] at s a r;have ha:=MY d a;clear D c A C m f G b
   go_wp2
   go_roundw
   case rel=>exact ⟨j+1,p,_,rfl,by go_num,by have:=W.o;omega,M.o.2,Hh ⟨L.o,.inr M.o.1⟩,r.o.1,r.o.2⟩
   case measure=>simp [intOf]
  ·obtain ⟨x,v⟩:=b.2 y
   rw [←D] at v a r;have I:z=(d:Int):=by omega
   subst I;have ha:=MY d a;have HL:=Hh (aDs x);have t:=run_convert_bytes_back (P:=prog) (wr.setCell ⟨g,p,none⟩ (.int .u8 ((vhC d).toNat:Int))) 69 9 5 ⟨g,p,none⟩ (65 - p) (vhL (j+1) n) underlying69 underlying5 underlying9 (fun i R=>by
    rw [Bs];rw [dL] at R;refine r.o.1.cellAt (j:=p+i) ?_;rw [Dr (by simp;omega),Dy,show p+i - (65 - (j+1))=i by omega]
    unfold aS;rw [Be,Ac (by rw [dL];exact R)]
    rfl)
   rw [dL] at t;have K:=GL (P:=prog) 237 5 65 g p (p:Int) rfl (by omega) underlying237 sizeOf5
   rw [show 65 - p=j+1 by omega] at t K
   have L:=Hh m.o.2;clear D c A C m f G x v
   go_wp2
   go_ret2
   exact ⟨⟨vhL (j+1) n,⟨j+1,by omega,rfl,HL.o,by rcases L.o with rfl | h;exact .inl rfl;exact .inr h⟩,rfl⟩,r.o.2⟩
theorem YY (n:Nat) (a:n<16777216) (w:World) (c:DB w):Calls prog 137 #[Iz (n:Int),Iz 16] w fun e w'=>(∃l,VJ n l∧e=.returned (.string ⟨l.toArray⟩))∧Below w.heap.size w w':=by
 have d:=Hh (ZO n a w c);have g:¬ (n:Int)<0:=by omega
 go_enter func137,ntmps137
 go_wp2_with (go_at_call 159;(with_reducible refine (d.o).mono ?_);rintro e h ⟨⟨l,f,rfl⟩,b⟩)
 go_ret
 exact ⟨⟨l,f,rfl⟩,b⟩
theorem aEe (n:Nat) (a:n<16777216) (w:World) (c:DB w):Calls prog 117 #[Iz (n:Int),Iz 16] w fun e w'=>(∃l,VJ n l∧e=.returned (.string ⟨l.toArray⟩))∧Below w.heap.size w w':=by
 have d:=Hh (YY n a w c)
 go_enter func117,ntmps117
 go_wp2_with (go_at_call 137;(with_reducible refine (d.o).mono ?_);rintro e g ⟨⟨l,f,rfl⟩,b⟩)
 go_ret
 exact ⟨⟨l,f,rfl⟩,b⟩
theorem aBs (c:Nat):Lib.repeatL [48] c=List.replicate c (48:UInt8):=by
 induction c with
 | zero=>rfl
 | succ c ih=>rw [List.replicate_succ,←ih];rfl
theorem ZC {n k:Nat} {l:Ub} (h:VJ n l) (f:n<16 ^ k) (e:1≤k):l.length≤k∧vhL k n=List.replicate (k - l.length) 48++l:=by
 obtain ⟨J,d,rfl,a,c⟩:=h;have b:J≤k:=by
  rcases c with rfl | h
  ·exact e
  ·have:J - 1<k:=(Nat.pow_lt_pow_iff_right (by decide:1<16)).1 (Nat.lt_of_le_of_lt h f)
   omega
 rw [dL];refine ⟨b,?_⟩;have:=UB (k - J) J n a
 rwa [show k - J+J=k by omega] at this
theorem aDq (n k:Nat) (z:Int) (L:(k:Int)=z) (F:n<16777216) (D:n<16 ^ k) (t:1≤k) (G:k≤6) (w:World) (B:DB w):Calls prog 87 #[Iz (n:Int),Iz z] w fun e w'=>e=.returned (.string ⟨(vhL k n).toArray⟩)∧Below w.heap.size w w':=by
 have v:=Hh (aEe n F w B);have s:Hid (∀ (c:Nat) (y:Int) (b:World),(c:Int)=y→c≤6→Calls prog 33 #[.string ⟨#[48]⟩,Iz y] b fun e w'=>e=.returned (.string ⟨(List.replicate c (48:UInt8)).toArray⟩)∧Below b.heap.size b w'):=Hh (fun c y b m G=>by
  subst m;have:=Any.strings_Repeat KQ aAx ⟨#[48]⟩ c b (by omega) (by show 1 * c≤_;omega)
  rw [show (⟨#[48]⟩:Bt).data.toList=[48] from rfl,aBs] at this
  exact this)
 clear B
 go_enter func87,ntmps87
 go_upto_region 2 with ((with_reducible refine (v.o).mono ?_);rintro e J ⟨⟨l,x,rfl⟩,A⟩)
 obtain ⟨p,a⟩:=ZC x D t;obtain ⟨c,m⟩:∃c,c=k - l.length:=⟨_,rfl⟩;obtain ⟨h,f⟩:∃h:Bt,h=⟨l.toArray⟩:=⟨_,rfl⟩;obtain ⟨i,d⟩:∃i:Bt,i=⟨(List.replicate c (48:UInt8)).toArray⟩:=⟨_,rfl⟩;have j:h.size=l.length:=by rw [f];show l.toArray.size=_;simp
 have q:i.size=c:=by rw [d];show (List.replicate c (48:UInt8)).toArray.size=_;simp
 have M:z - (h.size:Int)=(c:Int):=by rw [j];omega
 rw [←m] at a;have g:i++h=⟨(vhL k n).toArray⟩:=by rw [a,d,f];apply Cr;simp
 have E:Hid (∀b:World,Calls prog 33 #[.string ⟨#[48]⟩,Iz (c:Int)] b fun e w'=>e=.returned (.string i)∧Below b.heap.size b w'):=Hh (fun b=>by rw [d];exact s.o c _ b rfl (by omega))
 have C:¬9223372036854775807<i.size+h.size:=by omega
 have K:IntKind.i64.wrap (c:Int)=(c:Int):=w64 _ (by omega)
 have H:=Hh g;have u:=Hh A;rw [←f];clear v s x D t p a m A f d j q g
 go_wp2_with (go_at_call 33;(with_reducible refine (E.o _).mono ?_);rintro e I ⟨rfl,r⟩)
 go_ret
 exact ⟨by rw [←H.o];rfl,u.o.trans (r.mono u.o.size)⟩
end Go.Proofs.YtncdpanfefnjlaaGreatDoor
namespace Go.Proofs.YtncdpanfefnjlaaGreatDoor
open Go.Proofs.Tryz
open Go Go.ChangeShapes Go.WideShapes Go.ChangeAt Go.RowKit
def vdV (n:Nat):Nat:=if 48≤n∧n≤57 then n - 48 else (bits .or .u8 (n:Int) 32).toNat - 87
theorem UD {c:UInt8} {x:Nat} (h:vhD c=some x):((48≤c.toNat∧c.toNat≤57)∨(¬ (48≤c.toNat∧c.toNat≤57)∧97≤bits .or .u8 (c.toNat:Int) 32∧bits .or .u8 (c.toNat:Int) 32≤122))∧vdV c.toNat=x∧x<16:=by
 have:∀n:Fin 256,(vhD (UInt8.ofNat n.1)).isSome=true→((48≤n.1∧n.1≤57)∨(¬ (48≤n.1∧n.1≤57)∧97≤bits .or .u8 (n.1:Int) 32∧bits .or .u8 (n.1:Int) 32≤122))∧vdV n.1=(vhD (UInt8.ofNat n.1)).getD 0∧(vhD (UInt8.ofNat n.1)).getD 0<16:=by decide +kernel
 have a:=this ⟨c.toNat,c.toNat_lt⟩;rw [show UInt8.ofNat c.toNat=c from Dp,h] at a
 exact a rfl
def vhV (l:Ub):Nat:=l.foldl (fun a c=>a * 16+vdV c.toNat) 0
theorem KR (l:Ub) (c:UInt8):vhV (l++[c])=vhV l * 16+vdV c.toNat:=by unfold vhV;rw [List.foldl_append];rfl
theorem GI:∀ {l:Ub} {v:Nat},vhN l=some v→(∀c,c ∈ l→∃x,vhD c=some x)∧v=vhV l:=by
 have g:∀ (k:Nat) (l:Ub) (v:Nat),l.length=k→vhN l=some v→(∀c,c ∈ l→∃x,vhD c=some x)∧v=vhV l:=by
  intro k
  induction k with
  | zero=>
   intro l v i h;rw [Aw.1 i] at h ⊢;cases h;exact ⟨fun c n=>(by cases n),rfl⟩
  | succ k ih=>
   intro l v i h;have f:l ≠ []:=by intro e;subst e;cases i
   rw [←List.dropLast_concat_getLast f] at h ⊢;have a:l.dropLast.length=k:=by rw [List.length_dropLast];omega
   generalize l.dropLast=t at h a ⊢;generalize l.getLast f=c at h ⊢;rw [yY] at h;cases ht:vhN t with
   | none=>rw [ht] at h;cases h
   | some m=>
    cases hd:vhD c with
    | none=>rw [ht,hd] at h;cases h
    | some d=>
     rw [ht,hd] at h;have h:16 * m+d=v:=Ab h;obtain ⟨o,j⟩:=ih t m a ht;refine ⟨fun x b=>?_,?_⟩
     ·rcases Bg.1 b with b | b
      ·exact o x b
      ·cases At.1 b;exact ⟨d,hd⟩
     ·rw [KR,(UD hd).2.1,←j,←h];omega
 intro l v h;exact g _ l v rfl h
def CP (w:World):Prop:=∃t p,w.cell? ⟨6,0,none⟩=some (.iface t p)
theorem CP.below {w w':World} (h:CP w) (b:Below w.heap.size w w'):CP w':=by
 obtain ⟨t,p,a⟩:=h;exact ⟨t,p,(b.cell (p:=⟨_,0,none⟩) (cD a)).trans a⟩
theorem PP (c:Int) (w:World):Calls prog 179 #[.int .u8 c] w fun e w'=>e=.returned (.int .u8 (bits .or .u8 c 32))∧w=w':=by
 go_enter func179,ntmps179
 go_wp2
 go_ret
 exact ⟨rfl,rfl⟩
def aFn (s:Bt) (w:World) (e:Ending) (w':World):Prop:=∃ (v:Nat) (a:Value),e=.returned (.tuple #[.int .u64 (v:Int),a])∧v<16777216∧(a=.nilIface∨a=.iface 194 (Iz 2))∧(∀u,vhN s.data.toList=some u→0<s.size→v=u∧a=.nilIface)∧Below w.heap.size w w'
theorem aAu (s:Bt) (w:World) (hs:s.size≤6):Calls prog 151 #[.string s,Iz 16,Iz 64] w (aFn s w):=by
 have qm:IntKind.u64.wrap (IntKind.u64.wrap 18446744073709551616 - 1)=18446744073709551615:=by decide
 by_cases xe:s.size=0
 ·have U:s.data.toList=[]:=Aw.1 (by rw [←Lib.size_eq];exact xe)
  have W:s.toList.isEmpty=true:=by rw [Cj,U];rfl
  go_enter func151,ntmps151
  go_wp2
  go_ret2
  exact ⟨0,_,rfl,by decide,.inr rfl,(fun u g h0=>by omega),Br _ _⟩
 ·have W:s.toList.isEmpty=false:=by
   rw [Cj];cases h:s.data.toList with
   | nil=>have:=Lib.size_eq s;rw [h,Bz] at this;omega
   | cons _ _=>rfl
  have hB:∀j,j<s.size→(Lib.bytesWorld w 5 s).cell? ⟨w.heap.size,j,none⟩=some (.int .u8 (s.data.toList.getD j 0).toNat):=fun j hj=>Lib.bytesWorld_cell w 5 s j hj
  have xd:=Lib.run_convert_string_bytes (P:=prog) w 9 69 5 s (u:=.string) underlying9 underlying69 underlying5;have l:Below w.heap.size w (Lib.bytesWorld w 5 s):=Lib.bytesWorld_below _ _ _;obtain ⟨W1,V⟩:∃W1,W1=Lib.bytesWorld w 5 s:=⟨_,rfl⟩;rw [←V] at xd hB l;clear V;obtain ⟨N,hL⟩:∃N,N=s.data.toList:=⟨_,rfl⟩;have xh:N.length=s.size:=by rw [hL,Lib.size_eq]
  have HL:=Hh hL;rw [←hL] at hB;clear hL
  go_enter func151,ntmps151
  go_upto_region 36 with fail
  go_loopw [12,13,101] (fun vu vn vi wr=>∃ (k a:Nat) (z:Int),vu=.bool false∧vn=.int .u64 z∧vi=Iz (k:Int)∧wr=W1∧k≤s.size∧Hid (z=(a:Int)∧a<16 ^ k∧a=vhV (N.take k))) (fun _ _ vi _=>s.size - (intOf vi).toNat)
  case atStart=>exact ⟨0,0,0,rfl,rfl,rfl,rfl,by omega,Hh ⟨rfl,by decide,rfl⟩⟩
  case round=>
   obtain ⟨k,a,z,rfl,rfl,rfl,rfl,hk,Y⟩:=hrel;obtain ⟨y,F⟩:=Y.o;have F:=Hh F;clear Y
   by_cases xc:k<s.size
   ·have hc:=hB k xc
    have hg:N[k]?=some (N.getD k 0):=by rw [Cv,Ac (by omega)];rfl
    generalize N.getD k 0=c at hc hg;have HG:=Hh hg;clear hg hB;have R:c.toNat<256:=c.toNat_lt;have v:a<1048576:=by
     have h1:=F.o.1;have h2:16 ^ k≤16 ^ 5:=Ch (by decide) (by omega)
     have h3:16 ^ 5=1048576:=by decide
     omega
    have xj:z<1152921504606846976:=by omega
    have K:¬ (((48≤c.toNat∧c.toNat≤57)∨(¬ (48≤c.toNat∧c.toNat≤57)∧97≤bits .or .u8 (c.toNat:Int) 32∧bits .or .u8 (c.toNat:Int) 32≤122))∧vdV c.toNat<16)→∀u,¬vhN s.data.toList=some u:=by
     intro xf u g;rw [←HL.o] at g;obtain ⟨x,hx⟩:=(GI g).1 c (Ao HG.o);obtain ⟨g1,g2,g3⟩:=UD hx;exact xf ⟨g1,by omega⟩
    have b:=Hh K;have HH:=Hh F.o;have S:=bits_lo_u8 .or (c.toNat:Int) 32;have T:=bits_hi_u8 .or (c.toNat:Int) 32;have d:=Hh (fun O=>PP (c.toNat:Int) O)
    have r:¬ (48≤c.toNat∧c.toNat≤57)→vdV c.toNat=(bits .or .u8 (c.toNat:Int) 32).toNat - 87:=fun h=>by unfold vdV;rw [Ae h]
    have t:(48≤c.toNat∧c.toNat≤57)→vdV c.toNat=c.toNat - 48:=fun h=>by unfold vdV;rw [Am h]
    have f:c.toNat=95→bits .or .u8 (c.toNat:Int) 32=127:=fun h=>by rw [h];decide
    have Q:Hid (vdV c.toNat<16→a * 16+vdV c.toNat<16 ^ (k+1)∧a * 16+vdV c.toNat=vhV (N.take (k+1))):=Hh fun h=>by
     refine ⟨by rw [Dz];have:=F.o.1;omega,?_⟩
     rw [Bf,HG.o,Option.toList_some,KR,←F.o.2]
    clear K F HG;obtain ⟨D,hD⟩:∃D,D=vdV c.toNat:=⟨_,rfl⟩;rw [←hD] at b r t Q;clear hD;generalize bits .or .u8 (c.toNat:Int) 32=Z at b S T d r f;generalize c.toNat=n at b S T d r t f hc R;have xl:(0:Int)≤(n:Int):=by omega
    have xk:(n:Int)<256:=by omega
    have xi:(0:Int)≤z:=by omega
    have xg:=Hh y
    by_cases i:48≤n∧n≤57
    ·have A:=t i
     have M:(48:Int)≤(n:Int):=by omega
     have q2:(n:Int)≤57:=by omega
     have X:((n:Int) == 95)=false:=by simp;omega
     obtain ⟨m,H⟩:∃m:Int,m=(D:Int):=⟨_,rfl⟩;obtain ⟨q,C⟩:∃q:Int,q=((a * 16+D:Nat):Int):=⟨_,rfl⟩;have w0:(n:Int) - 48=m:=by omega
     have w2:IntKind.u64.wrap (z * 16)=z * 16:=by rw [Bi];omega
     have w3:IntKind.u64.wrap (z * 16+m)=q:=by rw [Bi];omega
     have w4:z * 16+m=q:=by omega
     have q4:m<16:=by omega
     have q5:(0:Int)≤m:=by omega
     have q6:¬q<z * 16:=by omega
     have q7:q≤18446744073709551615:=by omega
     have q8:¬ (18446744073709551615:Int)<q:=by omega
     have G:=Hh (Q.o (by omega))
     have J:=Hh C;clear Q r t f b A S T d i y v H C HH
     go_wp2
     go_roundw
     case rel=>exact ⟨k+1,a * 16+D,q,rfl,rfl,by go_num,trivial,by omega,Hh ⟨J.o,G.o⟩⟩
     case measure=>simp [intOf];omega
    ·have A:=r i
     have I:¬ (48:Int)≤(n:Int)∨¬ (n:Int)≤57:=by omega
     by_cases L:97≤Z∧Z≤122
     ·have X:((n:Int) == 95)=false:=by
       have:n ≠ 95:=fun e=>by have:=f e;omega
       simp;omega
      obtain ⟨l1,l2⟩:=L;obtain ⟨m,H⟩:∃m:Int,m=(D:Int):=⟨_,rfl⟩;have w0:Z - 97+10=m:=by omega
      have E:IntKind.u8.wrap (Z - 97)=Z - 97:=by rw [Da];omega
      have w2:IntKind.u8.wrap (Z - 97+10)=m:=by rw [Da];omega
      have w4:IntKind.u8.wrap m=m:=by rw [Da];omega
      have q5:(0:Int)≤m:=by omega
      have q6:m≤35:=by omega
      by_cases B:D<16
      ·obtain ⟨q,C⟩:∃q:Int,q=((a * 16+D:Nat):Int):=⟨_,rfl⟩
       have w5:IntKind.u64.wrap (z * 16)=z * 16:=by rw [Bi];omega
       have w6:IntKind.u64.wrap (z * 16+m)=q:=by rw [Bi];omega
       have w7:z * 16+m=q:=by omega
       have q4:m<16:=by omega
       have q7:¬q<z * 16:=by omega
       have q8:q≤18446744073709551615:=by omega
       have q9:¬ (18446744073709551615:Int)<q:=by omega
       have G:=Hh (Q.o (by omega))
       have J:=Hh C;clear Q r t f b A y v H C HH B i;rcases I with M | M
       ·go_wp2_with (go_at_call 179;(with_reducible refine (d.o _).mono ?_);rintro e E ⟨rfl,rfl⟩)
        go_roundw
        case rel=>exact ⟨k+1,a * 16+D,q,rfl,rfl,by go_num,trivial,by omega,Hh ⟨J.o,G.o⟩⟩
        case measure=>simp [intOf];omega
       ·have q0:(48:Int)≤(n:Int):=by omega
        go_wp2_with (go_at_call 179;(with_reducible refine (d.o _).mono ?_);rintro e E ⟨rfl,rfl⟩)
        go_roundw
        case rel=>exact ⟨k+1,a * 16+D,q,rfl,rfl,by go_num,trivial,by omega,Hh ⟨J.o,G.o⟩⟩
        case measure=>simp [intOf];omega
      ·have q4:¬m<16:=by omega
       have p:=Hh (b.o (fun h=>B h.2))
       clear Q r t f b A y v H HH B i;rcases I with M | M
       ·go_wp2_with (go_at_call 179;(with_reducible refine (d.o _).mono ?_);rintro e E ⟨rfl,rfl⟩)
        go_ret2
        exact ⟨0,_,rfl,by decide,.inr rfl,(fun u g _=>absurd g (p.o u)),l⟩
       ·have q0:(48:Int)≤(n:Int):=by omega
        go_wp2_with (go_at_call 179;(with_reducible refine (d.o _).mono ?_);rintro e E ⟨rfl,rfl⟩)
        go_ret2
        exact ⟨0,_,rfl,by decide,.inr rfl,(fun u g _=>absurd g (p.o u)),l⟩
     ·have p:=Hh (b.o (fun h=>h.1.elim i (fun h=>L h.2)))
      clear Q r t f b A y v HH i;have xa:¬97≤Z∨¬Z≤122:=by omega
      rcases xa with l1 | l1
      ·rcases I with M | M
       ·by_cases f:n=95
        ·omega
        ·have X:((n:Int) == 95)=false:=by simp;omega
         go_wp2_with (go_at_call 179;(with_reducible refine (d.o _).mono ?_);rintro e E ⟨rfl,rfl⟩)
         go_ret2
         exact ⟨0,_,rfl,by decide,.inr rfl,(fun u g _=>absurd g (p.o u)),l⟩
       ·have q0:(48:Int)≤(n:Int):=by omega
        by_cases f:n=95
        ·subst f
         have L2:Hid (∀O:World,Calls prog 179 #[.int .u8 95] O fun e w'=>e=.returned (.int .u8 Z)∧O=w'):=d
         go_wp2_with (go_at_call 179;(with_reducible refine (L2.o _).mono ?_);rintro e E ⟨rfl,rfl⟩)
         go_ret2
         exact ⟨0,_,rfl,by decide,.inr rfl,(fun u g _=>absurd g (p.o u)),l⟩
        ·have X:((n:Int) == 95)=false:=by simp;omega
         go_wp2_with (go_at_call 179;(with_reducible refine (d.o _).mono ?_);rintro e E ⟨rfl,rfl⟩)
         go_ret2
         exact ⟨0,_,rfl,by decide,.inr rfl,(fun u g _=>absurd g (p.o u)),l⟩
      ·rcases I with M | M
       ·have X:((n:Int) == 95)=false:=by simp;omega
        have l2:97≤Z:=by omega
        go_wp2_with (go_at_call 179;(with_reducible refine (d.o _).mono ?_);rintro e E ⟨rfl,rfl⟩)
        go_ret2
        exact ⟨0,_,rfl,by decide,.inr rfl,(fun u g _=>absurd g (p.o u)),l⟩
       ·have q0:(48:Int)≤(n:Int):=by omega
        have l2:97≤Z:=by omega
        by_cases f:n=95
        ·subst f
         have L2:Hid (∀O:World,Calls prog 179 #[.int .u8 95] O fun e w'=>e=.returned (.int .u8 Z)∧O=w'):=d
         go_wp2_with (go_at_call 179;(with_reducible refine (L2.o _).mono ?_);rintro e E ⟨rfl,rfl⟩)
         go_ret2
         exact ⟨0,_,rfl,by decide,.inr rfl,(fun u g _=>absurd g (p.o u)),l⟩
        ·have X:((n:Int) == 95)=false:=by simp;omega
         go_wp2_with (go_at_call 179;(with_reducible refine (d.o _).mono ?_);rintro e E ⟨rfl,rfl⟩)
         go_ret2
         exact ⟨0,_,rfl,by decide,.inr rfl,(fun u g _=>absurd g (p.o u)),l⟩
   ·have xb:k=s.size:=by omega
    subst xb;have HF:Hid (a<16777216∧∀u,vhN s.data.toList=some u→a=u):=by
     refine Hh ⟨?_,fun u g=>?_⟩
     ·have h1:=F.o.1
      have h2:16 ^ s.size≤16 ^ 6:=Ch (by decide) hs
      have h3:16 ^ 6=16777216:=by decide
      omega
     ·rw [←HL.o] at g
      rw [F.o.2,(GI g).2,Ak (by omega)]
    subst y;clear F
    go_wp2
    go_ret2
    exact ⟨a,_,rfl,HF.o.1,.inl rfl,fun u g _=>⟨HF.o.2 u g,rfl⟩,l⟩
def aKm (s:Bt) (w:World) (e:Ending) (w':World):Prop:=∃ (v:Int) (a:Value),e=.returned (.tuple #[Iz v,a])∧(-16777216<v∧v<16777216)∧(a=.nilIface∨a=.iface 194 (Iz 2))∧(∀u,vhN s.data.toList=some u→0<s.size→v=u∧a=.nilIface)∧Below w.heap.size w w'
theorem WE {s:Bt} (h:0<s.size) {u:Nat} (c:vhN s.data.toList=some u):s[0].toNat ≠ 43∧s[0].toNat ≠ 45:=by
 have b:s[0] ∈ s.data.toList:=by
  have:=Lib.data_getElem? s 0 h;exact Ao this
 obtain ⟨x,a⟩:=(GI c).1 _ b
 constructor
 ·intro e
  have:s[0]=43:=UInt8.toNat_inj.1 e;rw [this] at a;cases a
 ·intro e
  have:s[0]=45:=UInt8.toNat_inj.1 e;rw [this] at a;cases a
theorem aAy (w:World):(binOp .neq 94 (.iface 194 (Iz 2)) (.iface 194 (Iz 1))).run prog w=.ok (.bool true) w:=by kernel_rfl
theorem aAv (s:Bt) (w:World) (I:s.size≤6):Calls prog 135 #[.string s,Iz 16,Iz 64] w (aKm s w):=by
 by_cases q:s.size=0
 ·have m:s.data.toList=[]:=Aw.1 (by rw [←Lib.size_eq];exact q)
  have d:s.toList.isEmpty=true:=by rw [Cj,m];rfl
  go_enter func135,ntmps135
  go_wp2
  go_ret2
  exact ⟨0,_,rfl,by decide,.inr rfl,(fun u a k=>by omega),Br _ _⟩
 ·have d:s.toList.isEmpty=false:=by
   rw [Cj];cases h:s.data.toList with
   | nil=>have:=Lib.size_eq s;rw [h,Bz] at this;omega
   | cons _ _=>rfl
  have k:0<s.size:=by omega
  have l:Hid (∀ (t:Bt) (j:World),t.size≤6→Calls prog 151 #[.string t,Iz 16,Iz 64] j (aFn t j)):=Hh (fun t j h=>aAu t j h)
  have B:=Hh (fun u (a:vhN s.data.toList=some u)=>WE k a)
  have E:(s.extract 1 s.size).size≤6:=by rw [Do];omega
  have g:s[0].toNat<256:=s[0].toNat_lt;obtain ⟨n,z⟩:∃n,n=s[0].toNat:=⟨_,rfl⟩;rw [←z] at g
  go_enter func135,ntmps135
  go_upto_region 5 with fail
  have A:Hid (∀u,vhN s.data.toList=some u→n ≠ 43∧n ≠ 45):=Hh (fun u a=>by rw [z];exact B.o u a)
  rw [←z];have G:(1:Int)≤(s.size:Int):=by omega
  have H:=fun j=>aAy j
  clear z B q d
  by_cases x:n=43
  ·subst x
   go_upto_region 12 with ((with_reducible refine (l.o _ _ E).mono ?_);rintro e D ⟨v,F,rfl,c,b,i,f⟩)
   have r:¬ (9223372036854775808:Int)≤(v:Int):=by omega
   have p:=Hh c;clear l i c;rcases b with rfl | rfl
   ·go_wp2
    go_ret2
    exact ⟨v,_,rfl,by have:=p.o;omega,.inl rfl,(fun u a=>absurd rfl (A.o u a).1),f⟩
   ·go_wp2
    go_ret2
    exact ⟨0,_,rfl,by decide,.inr rfl,(fun u a=>absurd rfl (A.o u a).1),f⟩
  ·by_cases y:n=45
   ·subst y
    go_upto_region 12 with ((with_reducible refine (l.o _ _ E).mono ?_);rintro e D ⟨v,F,rfl,c,b,i,f⟩)
    have r:¬ (9223372036854775808:Int)<(v:Int):=by omega
    have p:=Hh c;clear l i c;rcases b with rfl | rfl
    ·go_wp2
     go_ret2
     exact ⟨wrap64 (-wrap64 (v:Int)),_,rfl,by have:=p.o;unfold wrap64;omega,.inl rfl,(fun u a=>absurd rfl (A.o u a).2),f⟩
    ·go_wp2
     go_ret2
     exact ⟨0,_,rfl,by decide,.inr rfl,(fun u a=>absurd rfl (A.o u a).2),f⟩
   ·have J:((n:Int) == 43)=false:=by simp;omega
    have K:((n:Int) == 45)=false:=by simp;omega
    clear x y
    go_upto_region 12 with ((with_reducible refine (l.o _ _ I).mono ?_);rintro e D ⟨v,F,rfl,c,b,i,f⟩)
    have r:¬ (9223372036854775808:Int)≤(v:Int):=by omega
    have p:=Hh c;have C:=Hh i;clear l i c;rcases b with rfl | rfl
    ·go_wp2
     go_ret2
     exact ⟨v,_,rfl,by have:=p.o;omega,.inl rfl,(fun u a k=>⟨by have:=(C.o u a k).1;omega,rfl⟩),f⟩
    ·go_wp2
     go_ret2
     exact ⟨0,_,rfl,by decide,.inr rfl,(fun u a k=>by have:=(C.o u a k).2;cases this),f⟩
def aKl (s:Bt) (w:World) (e:Ending) (w':World):Prop:=∃ (v:Int) (a:Value),e=.returned (.tuple #[Iz v,a])∧(-16777216<v∧v<16777216)∧(a=.nilIface∨∃t p,a=.iface t p)∧(∀u,vhN s.data.toList=some u→0<s.size→v=u∧a=.nilIface)∧Below w.heap.size w w'
theorem aGh (s:Bt) (w:World) (q:s.size≤6) (l:CP w):Calls prog 116 #[.string s,Iz 16,Iz 64] w (aKl s w):=by
 have I:=Hh (aAv s w q);have n:=Hh l;clear l
 go_enter func116,ntmps116
 go_upto_region 2 with ((with_reducible refine (I.o).mono ?_);rintro e b ⟨v,z,rfl,m,d,k,a⟩)
 have c:=Hh (Ai m k);clear m k I;rcases d with rfl | rfl
 ·go_wp2
  go_ret2
  exact ⟨v,_,rfl,c.o.1,.inl rfl,(fun u f g=>⟨(c.o.2 u f g).1,rfl⟩),a⟩
 ·obtain ⟨t,p,j⟩:=n.o.below a
  have T:Hid (Calls prog 136 #[.string ⟨#[80,97,114,115,101,73,110,116]⟩,.string s,Iz 16,Iz 64,.iface 194 (Iz 2)] b fun e w'=>(∃t p,e=.returned (.iface t p))∧Below b.heap.size b w'):=(Any.strconv_toError_syntax aAt ⟨#[80,97,114,115,101,73,110,116]⟩ s 16 64 _ b (by omega) j (.inr ⟨t,p,rfl⟩)).mono fun e w' ⟨N,h,_,_,a⟩=>⟨⟨_,_,h⟩,a⟩
  clear j
  go_wp2_with (go_at_call 136;(with_reducible refine (T.o).mono ?_);rintro e r ⟨⟨x,y,rfl⟩,i⟩)
  go_ret2
  exact ⟨v,_,rfl,c.o.1,.inr ⟨_,_,rfl⟩,(fun u f g=>by have:=(c.o.2 u f g).2;cases this),a.trans (i.mono a.size)⟩
def JQ (s:Bt) (w:World) (e:Ending) (w':World):Prop:=∃v:Int,e=.returned (Iz v)∧(-16777216<v∧v<16777216)∧(∀u,vhN s.data.toList=some u→0<s.size→v=u)∧Below w.heap.size w w'
theorem AZ (s:Bt) (w:World) (j:s.size≤6) (f:CP w):Calls prog 85 #[.string s] w (JQ s w):=by
 have I:=Hh (aGh s w j f);clear f
 go_enter func85,ntmps85
 go_upto_region 2 with ((with_reducible refine (I.o).mono ?_);rintro e k ⟨v,l,rfl,h,d,i,g⟩)
 have b:=Hh (Ai h i);clear h i I;rcases d with rfl | ⟨t,p,rfl⟩
 ·go_wp2
  go_ret
  exact ⟨v,rfl,b.o.1,fun u a c=>(b.o.2 u a c).1,g⟩
 ·go_wp2
  go_ret
  exact ⟨0,rfl,by decide,fun u a c=>(by have:=(b.o.2 u a c).2;cases this),g⟩
end Go.Proofs.YtncdpanfefnjlaaGreatDoor
namespace Go.Proofs.YtncdpanfefnjlaaGreatDoor
open Go.Proofs.Tryz
open Go Go.Maps Go.ChangeShapes Go.WideShapes Go.ChangeAt Go.RowKit
def bV (l:Ub):Bt:=⟨l.toArray⟩
theorem aIk (l:Ub):(bV l).size=l.length:=by show l.toArray.size=_;simp
theorem aLm (s:Bt):bV s.data.toList=s:=by cases s;simp [bV]
theorem CG (a b:Ub):bV a++bV b=bV (a++b):=by apply Cr;simp [bV]
theorem aAr {v:VD} (h:aY v=true):∃k c d j i e l g:Bt,k=bV (vhL 1 v.a.toNat)∧c=bV (vhL 1 v.b.toNat)∧d=bV (jM v.f)∧j=bV (vhL 6 v.z.toNat)∧v.p++k=i∧i++c=e∧e++d=l∧l++j=g∧g++⟨#[95]⟩=vtS v∧v.p.size=4∧k.size=1∧c.size=1∧d.size=4∧j.size=6∧i.size=5∧e.size=6∧l.size=10∧g.size=16:=by
 obtain ⟨n,q,s,t,r⟩:=dF h;have m:v.p.size=4:=by rw [←n,Ah];rfl
 have o:=(kC q).1;refine ⟨_,_,_,_,_,_,_,_,rfl,rfl,rfl,rfl,rfl,rfl,rfl,rfl,?_,m,?_,?_,?_,?_,?_,?_,?_,?_⟩
 ·unfold vtS
  rw [Am h]
  show _=bV (fS v)
  unfold fS;rw [←CG,←CG,←CG,←CG,←CG,aLm];simp only [ByteArray.append_assoc]
  rfl
 all_goals simp only [Cq,aIk,dL,o,m]
theorem RW (z:Int) (k:Nat) (y:Int) (g:(k:Int)=y) (d:0≤z) (h:z≤16777215) (f:z.toNat<16 ^ k) (a:1≤k) (b:k≤6) (w:World) (c:DB w):Calls prog 87 #[Iz z,Iz y] w fun e w'=>e=.returned (.string (bV (vhL k z.toNat)))∧Below w.heap.size w w':=by
 have:=aDq z.toNat k y g (by omega) f a b w c
 rw [Int.toNat_of_nonneg d] at this;exact this
def OQ (g:Nat) (v:VD) (w:World):Prop:=w.cell? ⟨g,0,none⟩=some (.string v.p)∧w.cell? ⟨g,1,none⟩=some (Iz v.a)∧w.cell? ⟨g,2,none⟩=some (Iz v.b)∧w.cell? ⟨g,3,none⟩=some (Iz v.f)∧w.cell? ⟨g,4,none⟩=some (Iz v.z)
theorem OQ.below {g:Nat} {v:VD} {w w':World} (h:OQ g v w) (a:Below w.heap.size w w'):OQ g v w':=lO a (cD h.1) h
def yM (v:VD) (w:World) (e:Ending) (w':World):Prop:=e=.returned (.tuple #[.string (vtS v),Iz (vtE v)])∧Below w.heap.size w w'
theorem oQ (v:VD) (w:World) (Z:CO v) (hT:DB w):Calls prog 53 #[.agg (vcs v)] w (yM v w):=by
 have O:=Hh (fun g:World=>rJ v g Z)
 have HT:=Hh hT;unfold vcs at *;have M:=(Br w.heap.size w).alloc (o:=.cells #[.string v.p,Iz v.a,Iz v.b,Iz v.f,Iz v.z] 58) (Lr _);have L:=Hn w (.cells #[.string v.p,Iz v.a,Iz v.b,Iz v.f,Iz v.z] 58);cases hval:aY v with
 | false=>
  rw [hval] at O;have Q:Hid (vtS v=⟨#[]⟩∧vtE v=2):=Hh (by unfold vtS vtE;rw [hval];exact ⟨rfl,rfl⟩)
  clear hval hT Z
  go_enter func53,ntmps53
  go_upto_region 1 with fail
  generalize w.alloc _=w1 at M L ⊢;have hc:=dQ L;have N:=Hh M;clear M L
  go_wp2_with (go_at_call 43;(with_reducible refine (O.o _).mono ?_);rintro e J ⟨rfl,n⟩)
  go_ret2
  exact ⟨by rw [Q.o.1,Q.o.2];rfl,N.o.trans (n.mono N.o.size)⟩
 | true=>
  rw [hval] at O;obtain ⟨s1,s2,S,W,t1,t2,t3,t4,e1,e2,e3,e4,c1,c2,c3,c4,c5,z0,z1,z2,z3,z4,y1,y2,y3,y4⟩:=aAr hval;obtain ⟨-,hf,ha,hb,hz⟩:=dF hval;have HA:Hid (∀g,DB g→Calls prog 87 #[Iz v.a,Iz 1] g fun e w'=>e=.returned (.string s1)∧Below g.heap.size g w'):=Hh fun g h=>by rw [e1];exact RW v.a 1 1 rfl ha.1 (by omega) (by omega) (by decide) (by decide) g h
  have V:Hid (∀g,DB g→Calls prog 87 #[Iz v.b,Iz 1] g fun e w'=>e=.returned (.string s2)∧Below g.heap.size g w'):=Hh fun g h=>by rw [e2];exact RW v.b 1 1 rfl hb.1 (by omega) (by omega) (by decide) (by decide) g h
  have HZ:Hid (∀g,DB g→Calls prog 87 #[Iz v.z,Iz 6] g fun e w'=>e=.returned (.string W)∧Below g.heap.size g w'):=Hh fun g h=>by rw [e4];exact RW v.z 6 6 rfl hz.1 (by omega) (by omega) (by decide) (by decide) g h
  have FN:=Hh (fun g:World=>rX g)
  have HF:=Hh Z.f;have E3:=Hh e3;have Q:Hid (t4++⟨#[95]⟩=vtS v∧vtE v=0):=Hh ⟨c5,by unfold vtE;rw [hval];rfl⟩
  have l1:¬9223372036854775807<v.p.size+s1.size:=by omega
  have l2:¬9223372036854775807<t1.size+s2.size:=by omega
  have l3:¬9223372036854775807<t2.size+S.size:=by omega
  have l4:¬9223372036854775807<t3.size+W.size:=by omega
  have l5:¬9223372036854775807<t4.size+1:=by omega
  clear hval hT Z e1 e2 e3 e4 c5 z0 z1 z2 z3 z4 y1 y2 y3 y4 ha hb hz hf
  go_enter func53,ntmps53
  go_upto_region 1 with fail
  generalize w.alloc _=w1 at M L ⊢;have hc:=dQ L;have N:=Hh M;have Y:OQ w.heap.size v w1:=hc;have X:=Hh Y;clear M L Y
  go_upto_region 3 with ((with_reducible refine (O.o _).mono ?_);rintro e J ⟨rfl,n⟩)
  have E:=X.o.below n;have G:=Hh (N.o.trans (n.mono N.o.size));clear n hc N X O;refine aI (OQ w.heap.size v) [1,3,7,12,16] (.take 0 (.take 1 (.take 2 (.take 3 (.take 6 (.take 7 (.take 11 (.take 12 (.take 15 (.take 16 (.ask 4 true (.take 5 (.ask 8 true (.take 9 (.ask 10 true (eP.join true (.ask 13 true (.take 14 (.ask 17 true .stop .stop)) (.ask 17 true (.ask 13 true (.take 14 .stop) .stop) .stop)) (.ask 18 false (.take 19 (.take 20 (.take 21 .stop))) .stop)) .stop)) .stop)) .stop))))))))))) (by kernel_rfl) (by kernel_rfl) (fun _ d _ _ _ h=>by cases d <;> exact h) (E.below ((Br _ _).drew)) ?_
  have B:=E.below ((Br J.heap.size J).drew);have q:=Hh (G.o.trans (((Br J.heap.size J).drew).mono G.o.size));generalize J.drew=wd at B q ⊢;have P:=Hh B;clear E B G;refine aF _ ?_ rfl rfl ?_ (fun K c=>?_);rotate_left;(intro l;go_simp;(try rfl));(go_simp;refine c _ ?_;clear c K)
  refine aM _ ?_ rfl rfl (by decide) ?_ (fun K c=>?_);rotate_left;(intro l j;obtain ⟨q0,q1,q2,q3,q4⟩:=j;go_simp;(try rfl));(go_simp;refine c _ ?_;clear c K)
  refine aF _ ?_ rfl rfl ?_ (fun K c=>?_);rotate_left;(intro l;go_simp;(try rfl));(go_simp;refine c _ ?_;clear c K)
  refine aM _ ?_ rfl rfl (by decide) ?_ (fun K c=>?_);rotate_left;(intro l j;obtain ⟨q0,q1,q2,q3,q4⟩:=j;go_simp;(try rfl));(go_simp;refine c _ ?_;clear c K)
  refine aF _ ?_ rfl rfl ?_ (fun K c=>?_);rotate_left;(intro l;go_simp;(try rfl));(go_simp;refine c _ ?_;clear c K)
  refine aM _ ?_ rfl rfl (by decide) ?_ (fun K c=>?_);rotate_left;(intro l j;obtain ⟨q0,q1,q2,q3,q4⟩:=j;go_simp;(try rfl));(go_simp;refine c _ ?_;clear c K)
  refine aF _ ?_ rfl rfl ?_ (fun K c=>?_);rotate_left;(intro l;go_simp;(try rfl));(go_simp;refine c _ ?_;clear c K)
  refine aM _ ?_ rfl rfl (by decide) ?_ (fun K c=>?_);rotate_left;(intro l j;obtain ⟨q0,q1,q2,q3,q4⟩:=j;go_simp;(try rfl));(go_simp;refine c _ ?_;clear c K)
  refine aF _ ?_ rfl rfl ?_ (fun K c=>?_);rotate_left;(intro l;go_simp;(try rfl));(go_simp;refine c _ ?_;clear c K)
  refine aM _ ?_ rfl rfl (by decide) ?_ (fun K c=>?_);rotate_left;(intro l j;obtain ⟨q0,q1,q2,q3,q4⟩:=j;go_simp;(try rfl));(go_simp;refine c _ ?_;clear c K)
  refine aH _ rfl trivial ?_;go_wp2_with (go_at_call 87;(with_reducible refine (HA.o _ (HT.o.below q.o)).mono ?_);rintro e w4 ⟨rfl,A⟩);have u:=Hh (P.o.below A);have s:=Hh (q.o.trans (A.mono q.o.size));refine Seg.mk ⟨u.o,?_⟩;clear A q P HA;refine aF _ ?_ rfl rfl ?_ (fun K c=>?_);rotate_left;(intro l;go_simp;(try rfl));(go_simp;refine c _ ?_;clear c K)
  refine aH _ rfl trivial ?_;go_wp2_with (go_at_call 87;(with_reducible refine (V.o _ (HT.o.below s.o)).mono ?_);rintro e w5 ⟨rfl,C⟩);have H:=Hh (u.o.below C);have y:=Hh (s.o.trans (C.mono s.o.size));refine Seg.mk ⟨H.o,?_⟩;clear C s u V;refine aF _ ?_ rfl rfl ?_ (fun K c=>?_);rotate_left;(intro l;go_simp;(try rfl));(go_simp;refine c _ ?_;clear c K)
  refine aH _ rfl trivial ?_;go_wp2_with (go_at_call 74;(with_reducible refine (FN.o _).mono ?_);rintro e w6 ⟨rfl,I,x⟩);have r:=Hh (H.o.below x);have k:=Hh (y.o.trans (x.mono y.o.size));have U:w5.heap.size<w6.heap.size:=I.lt;refine Seg.mk ⟨r.o,?_⟩;have t:=Hh I;clear x y H FN I;generalize w5.heap.size=m at t U ⊢;have T:Hid (∀g,iH g m→(Instr.lookup 112 (.map (some m)) (Iz v.f) false).run prog g=.ok (.string S) g):=Hh fun g h=>by rw [E3.o];exact h.look1 HF.o.1 HF.o.2
  clear E3 HF;refine dW [20,21,24] (fun vs g=>vs=[.string S,.string t3,.string W]∧Below w.heap.size w g) ?_ ?_
  rotate_left
  ·rintro vs w7 ⟨rfl,i⟩
   simp only [gJ,Act.put,Aq,Az,Ba];have D:=Hh i;clear i k r t T HZ;refine aB _ rfl trivial ?_;go_wp2_with fail;refine Seg.mk ?_
   iterate 3 (refine aF _ ?_ rfl rfl ?_ (fun K c=>?_);rotate_left;(intro l;go_simp;(try rfl));(go_simp;refine c _ ?_;clear c K))
   unfold cQ
   go_wp2
   go_ret2
   exact ⟨by rw [←Q.o.1,Q.o.2];rfl,D.o⟩
  ·refine aH _ rfl ?alt ?_
   rotate_left
   ·have F:=T.o _ t.o
    clear T
    go_wp2_with fail
    refine Seg.mk ⟨r.o,?_⟩;clear F;refine aF _ ?_ rfl rfl ?_ (fun K c=>?_);rotate_left;(intro l;go_simp;(try rfl));(go_simp;refine c _ ?_;clear c K)
    refine aH _ rfl trivial ?_;go_wp2_with (go_at_call 87;(with_reducible refine (HZ.o _ (HT.o.below k.o)).mono ?_);rintro e w7 ⟨rfl,i⟩);refine Seg.mk ⟨r.o.below i,?_⟩;exact aN [.string S,.string t3,.string W] ⟨rfl,k.o.trans (i.mono k.o.size)⟩ rfl
   ·refine aH _ rfl trivial ?_;go_wp2_with (go_at_call 87;(with_reducible refine (HZ.o _ (HT.o.below k.o)).mono ?_);rintro e w7 ⟨rfl,i⟩)
    have R:=Hh (r.o.below i);refine Seg.mk ⟨R.o,?_⟩;have F:=T.o _ (t.o.below i);have D:=Hh (k.o.trans (i.mono k.o.size));clear T i;refine aH _ rfl trivial ?_;go_wp2_with fail;refine Seg.mk ⟨R.o,?_⟩;clear F;refine aF _ ?_ rfl rfl ?_ (fun K c=>?_);rotate_left;(intro l;go_simp;(try rfl));(go_simp;refine c _ ?_;clear c K)
    exact aN [.string S,.string t3,.string W] ⟨rfl,D.o⟩ rfl
end Go.Proofs.YtncdpanfefnjlaaGreatDoor