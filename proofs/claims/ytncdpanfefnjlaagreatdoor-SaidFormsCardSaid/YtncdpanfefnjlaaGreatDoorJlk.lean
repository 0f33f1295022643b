import Derived.Test.YtncdpanfefnjlaaGreatDoorProg
import Derived.Test.YtncdpanfefnjlaaGreatDoorRows
import Derived.Test.YtncdpanfefnjlaaGreatDoorJmap
set_option linter.unusedVariables false
set_option linter.unusedSimpArgs false
set_option maxHeartbeats 8000000
set_option maxRecDepth 1000000
namespace Go.Proofs.YtncdpanfefnjlaaGreatDoor
open Go.Proofs.Tryz
open Go.Lib
def eU (c:UInt8):Bool:=decide (48≤c) && decide (c≤57)
def kE (l:Ub):Nat:=l.foldl (fun a c=>a * 10+(c.toNat - 48)) 0
theorem NV (l:Ub) (c:UInt8):kE (l++[c])=kE l * 10+(c.toNat - 48):=by unfold kE;rw [List.foldl_append];rfl
def BO (neg:Bool) (t:Ub):Option (ND × Ub):=
 if (t.takeWhile eU).length=0∨19<(t.takeWhile eU).length then none
 else if (neg=false∧9223372036854775807<kE (t.takeWhile eU))∨9223372036854775808<kE (t.takeWhile eU) then none
 else some (.mk 2 false (if neg then -(kE (t.takeWhile eU):Int) else (kE (t.takeWhile eU):Int)) ⟨#[]⟩ [] [],t.dropWhile eU)
def qE (t:Ub):Option (ND × Ub):=if t.head?=some 45 then BO true t.tail else BO false t
theorem aEo:∀v:Nat,v<10→eU (UInt8.ofNat (48+v))=true∧(UInt8.ofNat (48+v)).toNat - 48=v:=by
 have:∀v:Fin 10,eU (UInt8.ofNat (48+v.1))=true∧(UInt8.ofNat (48+v.1)).toNat - 48=v.1:=by decide +kernel
 exact fun v a=>this ⟨v,a⟩
theorem jO:∀ (n u:Nat),u≤n→(∀c,c ∈ decDigits u→eU c=true)∧kE (decDigits u)=u
 | n,u,hn=>by
  by_cases h:u<10
  ·rw [decDigits_one h]
   have:=aEo u h;refine ⟨fun c a=>by rw [At.1 a];exact this.1,?_⟩
   show 0 * 10+((UInt8.ofNat (48+u)).toNat - 48)=u
   rw [this.2];omega
  ·rw [decDigits,dif_neg h]
   cases n with
   | zero=>omega
   | succ n=>
    have b:=jO n (u / 10) (by omega)
    have:=aEo (u % 10) (by omega)
    refine ⟨fun c a=>?_,?_⟩
    ·rcases Bg.1 a with a | a
     ·exact b.1 c a
     ·rw [At.1 a];exact this.1
    ·rw [NV,b.2,this.2];omega
theorem AO:∀ (k u:Nat),u<10 ^ (k+1)→nDigits u≤k+1
 | 0,u,h=>by rw [nDigits_small (by simpa using h)];omega
 | k+1,u,h=>by
  by_cases a:u<10
  ·rw [nDigits_small a];omega
  ·rw [nDigits_big a]
   have:=AO k (u / 10) (by rw [Dz] at h;omega)
   omega
def okR (t:Ub):Prop:=∀c,t.head?=some c→eU c=false
theorem zG {l t:Ub} (a:∀c,c ∈ l→eU c=true) (b:okR t):(l++t).takeWhile eU=l∧(l++t).dropWhile eU=t:=by
 have h:t.takeWhile eU=[]∧t.dropWhile eU=t:=by
  cases t with
  | nil=>exact ⟨rfl,rfl⟩
  | cons c r=>
   have:=b c rfl;rw [List.takeWhile_cons,List.dropWhile_cons,this];exact ⟨rfl,rfl⟩
 rw [List.takeWhile_append_of_pos a,List.dropWhile_append_of_pos a,h.1,h.2,By];exact ⟨rfl,rfl⟩
theorem BL {u:Nat} {neg:Bool} {t:Ub} (j:u≤9223372036854775808) (b:neg=false→u≤9223372036854775807) (i:okR t):BO neg (decDigits u++t)=some (.mk 2 false (if neg then -(u:Int) else (u:Int)) ⟨#[]⟩ [] [],t):=by
 obtain ⟨c,f⟩:=jO u u (Lr _);obtain ⟨d,g⟩:=zG c i;unfold BO;rw [d,g,f];have m:(decDigits u).length=nDigits u:=decDigits_length u;have l:=nDigits_pos u;have k:=AO 18 u (by omega)
 have a:¬ ((neg=false∧9223372036854775807<u)∨9223372036854775808<u):=by
  rintro (⟨e,h⟩ | h)
  ·have:=b e;omega
  ·omega
 rw [Ae (by omega),Ae a]
theorem vI (z:Int):∃c r,itoa z=c::r∧(c=45∨eU c=true):=by
 have e:∀u,∃c r,decDigits u=c::r∧eU c=true:=by
  intro u;obtain ⟨b,-⟩:=jO u u (Lr _);have a:(decDigits u).length=nDigits u:=decDigits_length u;have f:=nDigits_pos u;cases h:decDigits u with
  | nil=>rw [h] at a;simp at a;omega
  | cons c r=>exact ⟨c,r,rfl,b c (by rw [h];simp)⟩
 unfold itoa
 split
 ·exact ⟨45,_,rfl,.inl rfl⟩
 ·obtain ⟨c,r,h,d⟩:=e z.toNat
  exact ⟨c,r,h,.inr d⟩
theorem pI {c:UInt8} (h:eU c=true):48≤c.toNat∧c.toNat≤57:=by
 unfold eU at h;rw [An,As,As] at h;exact ⟨UInt8.le_iff_toNat_le.1 h.1,UInt8.le_iff_toNat_le.1 h.2⟩
theorem GZ {z:Int} {t:Ub} (d:dD z=true) (f:okR t):qE (itoa z++t)=some (.mk 2 false z ⟨#[]⟩ [] [],t):=by
 unfold dD at d;rw [An,As,As] at d
 by_cases h:z<0
 ·have e:itoa z=45::decDigits z.natAbs:=by unfold itoa;rw [Am h]
  rw [e]
  show BO true (decDigits z.natAbs++t)=_
  rw [BL (by omega) (fun e=>by cases e) f]
  rw [Am rfl,show -(z.natAbs:Int)=z by omega]
 ·have e:itoa z=decDigits z.toNat:=by unfold itoa;rw [Ae h]
  have i:(itoa z++t).head? ≠ some 45:=by
   obtain ⟨c,r,a,j⟩:=vI z;obtain ⟨g,-⟩:=jO z.toNat z.toNat (Lr _);rw [e] at a;have:=pI (g c (by rw [a];simp))
   rw [e,a]
   show some c ≠ some 45
   intro b;have b:=Ab b;subst b
   revert this;decide
  unfold qE;rw [Ae i,e,BL (by omega) (fun _=>by omega) f]
  rw [Ae (by decide),show (z.toNat:Int)=z by omega]
def AN (a:Bool) (ns:List Bt) (t:Ub):Option (List Bt × Ub):=
 if a then match t with
  | 34::r=>match dA r with
   | some (o,58::r')=>some (ns++[⟨o.toArray⟩],r')
   | _=>none
  | _=>none
 else some (ns,t)
def dE (V:Ub→Option (ND × Ub)) (a:Bool) (e:UInt8):Nat→List Bt→List ND→Ub→Option ((List Bt × List ND) × Ub)
 | 0,_,_,_=>none
 | n+1,ns,its,t=>
  if its=[]∧t.head?=some e then some ((ns,its),t.tail)
  else match AN a ns t with
   | none=>none
   | some (ns',t1)=>match V t1 with
    | none=>none
    | some (x,t2)=>match t2 with
     | []=>none
     | c::t3=>if c=e then some ((ns',its++[x]),t3) else if c ≠ 44∨256<its.length+1 then none else dE V a e n ns' (its++[x]) t3
def cB:Nat→Ub→Option (ND × Ub)
 | 0,_=>none
 | d+1,t=>
  if t=[] then none
  else if List.isPrefixOf [110,117,108,108] t=true then some (nd0,t.drop 4)
  else if List.isPrefixOf [116,114,117,101] t=true then some (.mk 1 true 0 ⟨#[]⟩ [] [],t.drop 4)
  else if List.isPrefixOf [102,97,108,115,101] t=true then some (.mk 1 false 0 ⟨#[]⟩ [] [],t.drop 5)
  else if t.head?=some 34 then (dA t.tail).map fun x=>(.mk 3 false 0 ⟨x.1.toArray⟩ [] [],x.2)
  else if t.head?=some 91 then (dE (cB d) false 93 t.length [] [] t.tail).map fun x=>(.mk 4 false 0 ⟨#[]⟩ x.1.1 x.1.2,x.2)
  else if t.head?=some 123 then (dE (cB d) true 125 t.length [] [] t.tail).map fun x=>(.mk 5 false 0 ⟨#[]⟩ x.1.1 x.1.2,x.2)
  else qE t
theorem wJ (d:Nat) (c:UInt8) (r:Ub):cB (d+1) (c::r) =
 if List.isPrefixOf [110,117,108,108] (c::r)=true then some (nd0,(c::r).drop 4)
 else if List.isPrefixOf [116,114,117,101] (c::r)=true then some (.mk 1 true 0 ⟨#[]⟩ [] [],(c::r).drop 4)
 else if List.isPrefixOf [102,97,108,115,101] (c::r)=true then some (.mk 1 false 0 ⟨#[]⟩ [] [],(c::r).drop 5)
 else if c=34 then (dA r).map fun x=>(.mk 3 false 0 ⟨x.1.toArray⟩ [] [],x.2)
 else if c=91 then (dE (cB d) false 93 (r.length+1) [] [] r).map fun x=>(.mk 4 false 0 ⟨#[]⟩ x.1.1 x.1.2,x.2)
 else if c=123 then (dE (cB d) true 125 (r.length+1) [] [] r).map fun x=>(.mk 5 false 0 ⟨#[]⟩ x.1.1 x.1.2,x.2)
 else qE (c::r):=by
 conv=>lhs;unfold cB
 rw [Ae (by simp)]
 simp only [List.head?_cons,Option.some.injEq,List.tail_cons,Ag]
theorem vA {a c:UInt8} {l r:Ub} (h:c ≠ a):¬List.isPrefixOf (a::l) (c::r)=true:=by
 intro e;rw [List.isPrefixOf_cons_cons,An] at e;exact h (eq_of_beq e.1).symm
theorem gE (d:Nat) (c:UInt8) (r:Ub) (a:c ≠ 110) (e:c ≠ 116) (b:c ≠ 102):cB (d+1) (c::r) =
 if c=34 then (dA r).map fun x=>(.mk 3 false 0 ⟨x.1.toArray⟩ [] [],x.2)
 else if c=91 then (dE (cB d) false 93 (r.length+1) [] [] r).map fun x=>(.mk 4 false 0 ⟨#[]⟩ x.1.1 x.1.2,x.2)
 else if c=123 then (dE (cB d) true 125 (r.length+1) [] [] r).map fun x=>(.mk 5 false 0 ⟨#[]⟩ x.1.1 x.1.2,x.2)
 else qE (c::r):=by
 rw [wJ,Ae (vA a),Ae (vA e),Ae (vA b)]
theorem iF {d:Nat} {x:ND} (h:aC (d+1) x=true):x=nd0∨(x=.mk 1 x.bool 0 ⟨#[]⟩ [] [])∨(x=.mk 2 false x.num ⟨#[]⟩ [] [])∨(x=.mk 3 false 0 x.text [] [])∨(x=.mk 4 false 0 ⟨#[]⟩ [] x.items)∨(x=.mk 5 false 0 ⟨#[]⟩ x.names x.items∧x.names.length=x.items.length):=by
 rw [cV,An] at h;obtain ⟨j,-⟩:=h;unfold fC at j;simp only [An,Ee,As,Bool.not_eq_true'] at j;obtain ⟨⟨⟨⟨⟨⟨⟨⟨⟨⟨⟨u,s⟩,m⟩,l⟩,q⟩,p⟩,o⟩,-⟩,-⟩,r⟩,-⟩,-⟩:=j;obtain ⟨k,b,n,t,ns,its⟩:=x;simp only [ND.kind,ND.bool,ND.num,ND.text,ND.names,ND.items] at *;have a:k=0∨k=1∨k=2∨k=3∨k=4∨k=5:=by omega
 have e:k ≠ 1→b=false:=fun h=>m.resolve_right h
 have f:k ≠ 2→n=0:=fun h=>l.resolve_right h
 have g:k ≠ 3→t=⟨#[]⟩:=fun h=>q.resolve_right h
 have i:k<4→its=[]:=fun h=>Aw.1 (p.resolve_right (by omega))
 have c:k ≠ 5→ns=[]:=fun h=>Aw.1 (o.resolve_right h)
 rcases a with rfl | rfl | rfl | rfl | rfl | rfl
 ·left;rw [e (by decide),f (by decide),g (by decide),i (by decide),c (by decide)];rfl
 ·right;left;rw [f (by decide),g (by decide),i (by decide),c (by decide)]
 ·right;right;left;rw [e (by decide),g (by decide),i (by decide),c (by decide)]
 ·right;right;right;left;rw [e (by decide),f (by decide),i (by decide),c (by decide)]
 ·right;right;right;right;left;rw [e (by decide),f (by decide),g (by decide),c (by decide)]
 ·right;right;right;right;right;rw [e (by decide),f (by decide),g (by decide)];exact ⟨rfl,r.resolve_left (by decide)⟩
theorem wE {d:Nat} {x:ND} (h:aC (d+1) x=true):∃c r,aR (d+1) x=c::r∧c ≠ 93∧c ≠ 125:=by
 rcases iF h with e | e | e | e | e | ⟨e,-⟩ <;> rw [e]
 ·exact ⟨110,_,rfl,by decide,by decide⟩
 ·cases x.bool
  ·exact ⟨102,_,rfl,by decide,by decide⟩
  ·exact ⟨116,_,rfl,by decide,by decide⟩
 ·obtain ⟨c,r,b,a⟩:=vI x.num
  refine ⟨c,r,b,?_,?_⟩
  all_goals
   intro e;subst e;rcases a with a | a <;> revert a <;> decide
 ·exact ⟨34,_,rfl,by decide,by decide⟩
 ·exact ⟨91,_,rfl,by decide,by decide⟩
 ·exact ⟨123,_,rfl,by decide,by decide⟩
theorem tH {c:UInt8} {r:Ub} (h:eU c=false):okR (c::r):=fun a e=>by cases e;exact h
theorem uW {a:Ub} {l:List (Ub)}:l ≠ []→dK (a::l)=a++44::dK l:=by
 intro h;cases l with
 | nil=>exact absurd rfl h
 | cons b t=>rfl
theorem EZ {V:Ub→Option (ND × Ub)} {W:ND→Ub} {t:Ub}:∀ (its:List ND) (n:Nat) (done:List ND),its ≠ []→its.length≤n→done.length+its.length≤256 →
 (∀y,y ∈ its→(∀r,okR r→V (W y++r)=some (y,r))∧∃c r,W y=c::r∧c ≠ 93) →
 dE V false 93 n [] done (dK (its.map W)++93::t)=some (([],done++its),t)
 | [],_,_,h,_,_,_=>absurd rfl h
 | y::ys,0,_,_,h,_,_=>by simp at h
 | y::ys,n+1,done,_,hn,hd,hy=>by
  obtain ⟨d,c,r,e,b⟩:=hy y (by simp)
  have a:¬ (done=[]∧(dK ((y::ys).map W)++93::t).head?=some 93):=by
   rintro ⟨-,h⟩;have:(dK ((y::ys).map W)++93::t).head?=some c:=by
    cases ys with
    | nil=>show (W y++93::t).head?=_;rw [e];rfl
    | cons z zs=>rw [Bq,uW (by simp),e];rfl
   rw [this] at h;exact b (Ab h)
  unfold dE;rw [Ae a]
  show (match V (dK ((y::ys).map W)++93::t) with
   | none=>none
   | some (x,t2)=>match t2 with
    | []=>none
    | c::t3=>if c=93 then some (([],done++[x]),t3) else if c ≠ 44∨256<done.length+1 then none else dE V false 93 n [] (done++[x]) t3)=_
  cases ys with
  | nil=>
   show (match V (W y++93::t) with | none=>none | some (x,t2)=>_)=_
   rw [d _ (tH (by decide))]
   rfl
  | cons z zs=>
   rw [Bq,uW (by simp),Aj,Bo,d _ (tH (by decide))]
   have g:=EZ (V:=V) (W:=W) (t:=t) (z::zs) n (done++[y]) (by simp) (by simpa using hn) (by simp at hd ⊢;omega) (fun w f=>hy w (by simp at f ⊢;exact .inr f))
   show (if (44:UInt8)=93 then _ else if (44:UInt8) ≠ 44∨256<done.length+1 then none else dE V false 93 n [] (done++[y]) (dK ((z::zs).map W)++93::t))=_
   rw [Ae (by decide),Ae (by simp at hd ⊢;omega),g]
   simp
end Go.Proofs.YtncdpanfefnjlaaGreatDoor
namespace Go.Proofs.YtncdpanfefnjlaaGreatDoor
open Go.Proofs.Tryz
open Go.Shelf Go.RowKit Go.Lib
def YT:Go.Shelf.Ren:=⟨fun | 103=>189 | 119=>217 | 129=>184 | 137=>216 | 152=>210 | 153=>204 | 171=>99 | 172=>193 | 205=>182 | 206=>94 | 210=>203 | 217=>220 | 224=>218 | 225=>219 | 226=>211 | 227=>212 | 228=>213 | 243=>121 | 244=>207 | 245=>136 | 246=>137 | 247=>135 | 266=>221 | 279=>152 | 280=>153 | 281=>154 | 282=>155 | 283=>156 | 284=>157 | 285=>158 | 286=>159 | 287=>151 | 316=>181 | 317=>183 | 318=>185 | 319=>186 | 320=>187 | 321=>179 | 322=>180 | 337=>201 | 338=>202 | n=>n,fun | 0=>0 | 2=>2 | 3=>3 | 4=>4 | 5=>5 | 9=>9 | 20=>20 | 21=>21 | 24=>111 | 37=>69 | 46=>85 | 51=>106 | 53=>130 | 75=>94 | 76=>95 | 80=>44 | 85=>151 | 116=>262 | 117=>263 | 124=>267 | 127=>133 | 143=>253 | 145=>255 | 167=>194 | 168=>197 | 171=>200 | 173=>203 | 175=>195 | 210=>233 | 212=>236 | 213=>237 | 232=>109 | 233=>259 | n=>n,fun | 15=>6 | 16=>7 | 17=>8 | 18=>10 | 19=>11 | n=>n⟩
theorem aDj:Go.Proofs.Lays.n103 prog YT:={
 mixed:=by kernel_rfl
 f103:=Tryz.func189.trans (Ad some (by kernel_rfl))
 f206:=Tryz.func94.trans (Ad some (by kernel_rfl))
 f210:=Tryz.func203.trans (Ad some (by kernel_rfl))
 t3:=underlying3
 a3:=isAgg3
 z3:=sizeOf3
 v3:=zeroValue3
 t4:=underlying4
 a4:=isAgg4
 z4:=sizeOf4
 v4:=zeroValue4
 t9:=underlying9
 a9:=isAgg9
 z9:=sizeOf9
 v9:=zeroValue9
 t24:=underlying111
 a24:=isAgg111
 z24:=sizeOf111
 v24:=zeroValue111
}
theorem aDi:Go.Proofs.Lays.n137 prog YT:={
 mixed:=by kernel_rfl
 f137:=Tryz.func216.trans (Ad some (by kernel_rfl))
 f217:=Tryz.func220.trans (Ad some (by kernel_rfl))
 f266:=Tryz.func221.trans (Ad some (by kernel_rfl))
 t3:=underlying3
 a3:=isAgg3
 z3:=sizeOf3
 v3:=zeroValue3
 t5:=underlying5
 a5:=isAgg5
 z5:=sizeOf5
 v5:=zeroValue5
 t9:=underlying9
 a9:=isAgg9
 z9:=sizeOf9
 v9:=zeroValue9
}
theorem aDh:Go.Proofs.Lays.n152 prog YT:={
 mixed:=by kernel_rfl
 f119:=Tryz.func217.trans (Ad some (by kernel_rfl))
 f137:=Tryz.func216.trans (Ad some (by kernel_rfl))
 f152:=Tryz.func210.trans (Ad some (by kernel_rfl))
 f217:=Tryz.func220.trans (Ad some (by kernel_rfl))
 f224:=Tryz.func218.trans (Ad some (by kernel_rfl))
 f225:=Tryz.func219.trans (Ad some (by kernel_rfl))
 f266:=Tryz.func221.trans (Ad some (by kernel_rfl))
 t0:=underlying0
 a0:=isAgg0
 z0:=sizeOf0
 v0:=zeroValue0
 t3:=underlying3
 a3:=isAgg3
 z3:=sizeOf3
 v3:=zeroValue3
 t4:=underlying4
 a4:=isAgg4
 z4:=sizeOf4
 v4:=zeroValue4
 t5:=underlying5
 a5:=isAgg5
 z5:=sizeOf5
 v5:=zeroValue5
 t9:=underlying9
 a9:=isAgg9
 z9:=sizeOf9
 v9:=zeroValue9
 t21:=underlying21
 a21:=isAgg21
 z21:=sizeOf21
 v21:=zeroValue21
 t46:=underlying85
 a46:=isAgg85
 z46:=sizeOf85
 v46:=zeroValue85
}
theorem aDg:Go.Proofs.Lays.n153 prog YT:={
 mixed:=by kernel_rfl
 f119:=Tryz.func217.trans (Ad some (by kernel_rfl))
 f137:=Tryz.func216.trans (Ad some (by kernel_rfl))
 f152:=Tryz.func210.trans (Ad some (by kernel_rfl))
 f153:=Tryz.func204.trans (Ad some (by kernel_rfl))
 f217:=Tryz.func220.trans (Ad some (by kernel_rfl))
 f224:=Tryz.func218.trans (Ad some (by kernel_rfl))
 f225:=Tryz.func219.trans (Ad some (by kernel_rfl))
 f226:=Tryz.func211.trans (Ad some (by kernel_rfl))
 f227:=Tryz.func212.trans (Ad some (by kernel_rfl))
 f228:=Tryz.func213.trans (Ad some (by kernel_rfl))
 f266:=Tryz.func221.trans (Ad some (by kernel_rfl))
 t0:=underlying0
 a0:=isAgg0
 z0:=sizeOf0
 v0:=zeroValue0
 t3:=underlying3
 a3:=isAgg3
 z3:=sizeOf3
 v3:=zeroValue3
 t4:=underlying4
 a4:=isAgg4
 z4:=sizeOf4
 v4:=zeroValue4
 t5:=underlying5
 a5:=isAgg5
 z5:=sizeOf5
 v5:=zeroValue5
 t9:=underlying9
 a9:=isAgg9
 z9:=sizeOf9
 v9:=zeroValue9
 t21:=underlying21
 a21:=isAgg21
 z21:=sizeOf21
 v21:=zeroValue21
 t46:=underlying85
 a46:=isAgg85
 z46:=sizeOf85
 v46:=zeroValue85
 t116:=underlying262
 a116:=isAgg262
 z116:=sizeOf262
 t117:=underlying263
 a117:=isAgg263
 z117:=sizeOf263
 v117:=zeroValue263
 t124:=underlying267
 a124:=isAgg267
 z124:=sizeOf267
 v124:=zeroValue267
}
theorem AX:Go.Proofs.LaysC.n172 prog YT:={
 mixed:=by kernel_rfl
 f129:=Tryz.func184.trans (Ad some (by kernel_rfl))
 f171:=Tryz.func99.trans (Ad some (by kernel_rfl))
 f172:=Tryz.func193.trans (Ad some (by kernel_rfl))
 f205:=Tryz.func182.trans (Ad some (by kernel_rfl))
 f243:=Tryz.func121.trans (Ad some (by kernel_rfl))
 f244:=Tryz.func207.trans (Ad some (by kernel_rfl))
 f245:=Tryz.func136.trans (Ad some (by kernel_rfl))
 f246:=Tryz.func137.trans (Ad some (by kernel_rfl))
 f247:=Tryz.func135.trans (Ad some (by kernel_rfl))
 f279:=Tryz.func152.trans (Ad some (by kernel_rfl))
 f280:=Tryz.func153.trans (Ad some (by kernel_rfl))
 f281:=Tryz.func154.trans (Ad some (by kernel_rfl))
 f282:=Tryz.func155.trans (Ad some (by kernel_rfl))
 f283:=Tryz.func156.trans (Ad some (by kernel_rfl))
 f284:=Tryz.func157.trans (Ad some (by kernel_rfl))
 f285:=Tryz.func158.trans (Ad some (by kernel_rfl))
 f286:=Tryz.func159.trans (Ad some (by kernel_rfl))
 f287:=Tryz.func151.trans (Ad some (by kernel_rfl))
 f316:=Tryz.func181.trans (Ad some (by kernel_rfl))
 f317:=Tryz.func183.trans (Ad some (by kernel_rfl))
 f318:=Tryz.func185.trans (Ad some (by kernel_rfl))
 f319:=Tryz.func186.trans (Ad some (by kernel_rfl))
 f320:=Tryz.func187.trans (Ad some (by kernel_rfl))
 f321:=Tryz.func179.trans (Ad some (by kernel_rfl))
 f322:=Tryz.func180.trans (Ad some (by kernel_rfl))
 f337:=Tryz.func201.trans (Ad some (by kernel_rfl))
 f338:=Tryz.func202.trans (Ad some (by kernel_rfl))
 t0:=underlying0
 a0:=isAgg0
 z0:=sizeOf0
 v0:=zeroValue0
 t2:=underlying2
 a2:=isAgg2
 z2:=sizeOf2
 v2:=zeroValue2
 t3:=underlying3
 a3:=isAgg3
 z3:=sizeOf3
 v3:=zeroValue3
 t4:=underlying4
 a4:=isAgg4
 z4:=sizeOf4
 v4:=zeroValue4
 t5:=underlying5
 a5:=isAgg5
 z5:=sizeOf5
 v5:=zeroValue5
 t9:=underlying9
 a9:=isAgg9
 z9:=sizeOf9
 v9:=zeroValue9
 t20:=underlying20
 a20:=isAgg20
 z20:=sizeOf20
 v20:=zeroValue20
 t21:=underlying21
 a21:=isAgg21
 z21:=sizeOf21
 v21:=zeroValue21
 t37:=underlying69
 a37:=isAgg69
 z37:=sizeOf69
 v37:=zeroValue69
 t46:=underlying85
 a46:=isAgg85
 z46:=sizeOf85
 v46:=zeroValue85
 t51:=underlying106
 a51:=isAgg106
 z51:=sizeOf106
 v51:=zeroValue106
 t53:=underlying130
 a53:=isAgg130
 z53:=sizeOf130
 v53:=zeroValue130
 t75:=underlying94
 a75:=isAgg94
 z75:=sizeOf94
 v75:=zeroValue94
 t76:=underlying95
 a76:=isAgg95
 z76:=sizeOf95
 v76:=zeroValue95
 t85:=underlying151
 a85:=isAgg151
 z85:=sizeOf151
 v85:=zeroValue151
 t127:=underlying133
 a127:=isAgg133
 z127:=sizeOf133
 v127:=zeroValue133
 t143:=underlying253
 a143:=isAgg253
 z143:=sizeOf253
 v143:=zeroValue253
 t145:=underlying255
 a145:=isAgg255
 z145:=sizeOf255
 v145:=zeroValue255
 t167:=underlying194
 a167:=isAgg194
 z167:=sizeOf194
 v167:=zeroValue194
 t168:=underlying197
 a168:=isAgg197
 z168:=sizeOf197
 v168:=zeroValue197
 t171:=underlying200
 a171:=isAgg200
 z171:=sizeOf200
 v171:=zeroValue200
 t173:=underlying203
 a173:=isAgg203
 z173:=sizeOf203
 v173:=zeroValue203
 t175:=underlying195
 a175:=isAgg195
 z175:=sizeOf195
 v175:=zeroValue195
 t210:=underlying233
 a210:=isAgg233
 z210:=sizeOf233
 v210:=zeroValue233
 t212:=underlying236
 a212:=isAgg236
 z212:=sizeOf236
 v212:=zeroValue236
 t213:=underlying237
 a213:=isAgg237
 z213:=sizeOf237
 t232:=underlying109
 a232:=isAgg109
 z232:=sizeOf109
 v232:=zeroValue109
 t233:=underlying259
 a233:=isAgg259
 z233:=sizeOf259
 v233:=zeroValue259
 g15:=by kernel_rfl
 g16:=by kernel_rfl
 g17:=by kernel_rfl
 g18:=by kernel_rfl
 g19:=by kernel_rfl
 t80:=underlying44
 a80:=isAgg44
 z80:=sizeOf44
 v80:=zeroValue44
 i0:=by kernel_rfl
 i2:=by kernel_rfl
 i3:=by kernel_rfl
 i4:=by kernel_rfl
 i5:=by kernel_rfl
 i9:=by kernel_rfl
 i20:=by kernel_rfl
 i21:=by kernel_rfl
 i37:=by kernel_rfl
 i46:=by kernel_rfl
 i51:=by kernel_rfl
 i53:=by kernel_rfl
 i75:=by kernel_rfl
 i76:=by kernel_rfl
 i80:=by kernel_rfl
 i85:=by kernel_rfl
 i127:=by kernel_rfl
 i143:=by kernel_rfl
 i145:=by kernel_rfl
 i167:=by kernel_rfl
 i168:=by kernel_rfl
 i171:=by kernel_rfl
 i173:=by kernel_rfl
 i175:=by kernel_rfl
 i210:=by kernel_rfl
 i212:=by kernel_rfl
 i232:=by kernel_rfl
 i233:=by kernel_rfl
 m15:=by kernel_rfl
 m16:=by kernel_rfl
 m17:=by kernel_rfl
 m18:=by kernel_rfl
 m19:=by kernel_rfl
 c0:=by kernel_rfl
 c2:=by kernel_rfl
 c3:=by kernel_rfl
 c4:=by kernel_rfl
 c5:=by kernel_rfl
 c9:=by kernel_rfl
 c20:=by kernel_rfl
 c21:=by kernel_rfl
 c37:=by kernel_rfl
 c46:=by kernel_rfl
 c51:=by kernel_rfl
 c53:=by kernel_rfl
 c75:=by kernel_rfl
 c76:=by kernel_rfl
 c80:=by kernel_rfl
 c85:=by kernel_rfl
 c127:=by kernel_rfl
 c143:=by kernel_rfl
 c145:=by kernel_rfl
 c167:=by kernel_rfl
 c168:=by kernel_rfl
 c171:=by kernel_rfl
 c173:=by kernel_rfl
 c175:=by kernel_rfl
 c210:=by kernel_rfl
 c212:=by kernel_rfl
 c213:=by kernel_rfl
 c232:=by kernel_rfl
 c233:=by kernel_rfl
}
theorem aDf:Go.Proofs.LaysC.n245 prog YT:={
 mixed:=by kernel_rfl
 f129:=Tryz.func184.trans (Ad some (by kernel_rfl))
 f171:=Tryz.func99.trans (Ad some (by kernel_rfl))
 f205:=Tryz.func182.trans (Ad some (by kernel_rfl))
 f243:=Tryz.func121.trans (Ad some (by kernel_rfl))
 f245:=Tryz.func136.trans (Ad some (by kernel_rfl))
 f246:=Tryz.func137.trans (Ad some (by kernel_rfl))
 f279:=Tryz.func152.trans (Ad some (by kernel_rfl))
 f280:=Tryz.func153.trans (Ad some (by kernel_rfl))
 f281:=Tryz.func154.trans (Ad some (by kernel_rfl))
 f282:=Tryz.func155.trans (Ad some (by kernel_rfl))
 f283:=Tryz.func156.trans (Ad some (by kernel_rfl))
 f284:=Tryz.func157.trans (Ad some (by kernel_rfl))
 f285:=Tryz.func158.trans (Ad some (by kernel_rfl))
 f286:=Tryz.func159.trans (Ad some (by kernel_rfl))
 f316:=Tryz.func181.trans (Ad some (by kernel_rfl))
 f317:=Tryz.func183.trans (Ad some (by kernel_rfl))
 f318:=Tryz.func185.trans (Ad some (by kernel_rfl))
 f319:=Tryz.func186.trans (Ad some (by kernel_rfl))
 f320:=Tryz.func187.trans (Ad some (by kernel_rfl))
 f337:=Tryz.func201.trans (Ad some (by kernel_rfl))
 f338:=Tryz.func202.trans (Ad some (by kernel_rfl))
 t0:=underlying0
 a0:=isAgg0
 z0:=sizeOf0
 v0:=zeroValue0
 t2:=underlying2
 a2:=isAgg2
 z2:=sizeOf2
 v2:=zeroValue2
 t3:=underlying3
 a3:=isAgg3
 z3:=sizeOf3
 v3:=zeroValue3
 t4:=underlying4
 a4:=isAgg4
 z4:=sizeOf4
 v4:=zeroValue4
 t5:=underlying5
 a5:=isAgg5
 z5:=sizeOf5
 v5:=zeroValue5
 t9:=underlying9
 a9:=isAgg9
 z9:=sizeOf9
 v9:=zeroValue9
 t20:=underlying20
 a20:=isAgg20
 z20:=sizeOf20
 v20:=zeroValue20
 t37:=underlying69
 a37:=isAgg69
 z37:=sizeOf69
 v37:=zeroValue69
 t46:=underlying85
 a46:=isAgg85
 z46:=sizeOf85
 v46:=zeroValue85
 t51:=underlying106
 a51:=isAgg106
 z51:=sizeOf106
 v51:=zeroValue106
 t53:=underlying130
 a53:=isAgg130
 z53:=sizeOf130
 v53:=zeroValue130
 t75:=underlying94
 a75:=isAgg94
 z75:=sizeOf94
 v75:=zeroValue94
 t127:=underlying133
 a127:=isAgg133
 z127:=sizeOf133
 v127:=zeroValue133
 t143:=underlying253
 a143:=isAgg253
 z143:=sizeOf253
 v143:=zeroValue253
 t145:=underlying255
 a145:=isAgg255
 z145:=sizeOf255
 v145:=zeroValue255
 t167:=underlying194
 a167:=isAgg194
 z167:=sizeOf194
 v167:=zeroValue194
 t168:=underlying197
 a168:=isAgg197
 z168:=sizeOf197
 v168:=zeroValue197
 t171:=underlying200
 a171:=isAgg200
 z171:=sizeOf200
 v171:=zeroValue200
 t173:=underlying203
 a173:=isAgg203
 z173:=sizeOf203
 v173:=zeroValue203
 t210:=underlying233
 a210:=isAgg233
 z210:=sizeOf233
 v210:=zeroValue233
 t212:=underlying236
 a212:=isAgg236
 z212:=sizeOf236
 v212:=zeroValue236
 t213:=underlying237
 a213:=isAgg237
 z213:=sizeOf237
 t232:=underlying109
 a232:=isAgg109
 z232:=sizeOf109
 v232:=zeroValue109
 t233:=underlying259
 a233:=isAgg259
 z233:=sizeOf259
 v233:=zeroValue259
 g15:=by kernel_rfl
 g16:=by kernel_rfl
 g17:=by kernel_rfl
 g18:=by kernel_rfl
 g19:=by kernel_rfl
 t80:=underlying44
 a80:=isAgg44
 z80:=sizeOf44
 v80:=zeroValue44
 i0:=by kernel_rfl
 i2:=by kernel_rfl
 i3:=by kernel_rfl
 i4:=by kernel_rfl
 i5:=by kernel_rfl
 i9:=by kernel_rfl
 i20:=by kernel_rfl
 i37:=by kernel_rfl
 i46:=by kernel_rfl
 i51:=by kernel_rfl
 i53:=by kernel_rfl
 i75:=by kernel_rfl
 i80:=by kernel_rfl
 i127:=by kernel_rfl
 i143:=by kernel_rfl
 i145:=by kernel_rfl
 i167:=by kernel_rfl
 i168:=by kernel_rfl
 i171:=by kernel_rfl
 i173:=by kernel_rfl
 i210:=by kernel_rfl
 i212:=by kernel_rfl
 i232:=by kernel_rfl
 i233:=by kernel_rfl
 m15:=by kernel_rfl
 m16:=by kernel_rfl
 m17:=by kernel_rfl
 m18:=by kernel_rfl
 m19:=by kernel_rfl
 c0:=by kernel_rfl
 c2:=by kernel_rfl
 c3:=by kernel_rfl
 c4:=by kernel_rfl
 c5:=by kernel_rfl
 c9:=by kernel_rfl
 c20:=by kernel_rfl
 c37:=by kernel_rfl
 c46:=by kernel_rfl
 c51:=by kernel_rfl
 c53:=by kernel_rfl
 c75:=by kernel_rfl
 c80:=by kernel_rfl
 c127:=by kernel_rfl
 c143:=by kernel_rfl
 c145:=by kernel_rfl
 c167:=by kernel_rfl
 c168:=by kernel_rfl
 c171:=by kernel_rfl
 c173:=by kernel_rfl
 c210:=by kernel_rfl
 c212:=by kernel_rfl
 c213:=by kernel_rfl
 c232:=by kernel_rfl
 c233:=by kernel_rfl
}
end Go.Proofs.YtncdpanfefnjlaaGreatDoor
namespace Go.Proofs.YtncdpanfefnjlaaGreatDoor
open Go.Proofs.Tryz
open Go Go.ChangeShapes Go.WideShapes Go.ChangeAt Go.RowKit
theorem xM {B:Nat} {a w:World} (h:Below B a w) (n:Nat):Below B a (w.drewN n):=h.trans ⟨rfl,rfl,rfl,Lr _,fun _ _=>rfl⟩
theorem aEm (r:Int) (h:128≤r):∃l:Ub,Utf8.encode r=⟨l.toArray⟩∧2≤l.length∧l.length≤4∧∀b,b ∈ l→128≤b.toNat:=by
 obtain ⟨c,f⟩:∃c,c=(if Utf8.valid r then r.toNat else Utf8.runeError):=⟨_,rfl⟩
 have e:128≤c∧c≤1114111:=by
  rw [f]
  split
  ·rename_i hv
   unfold Utf8.valid at hv;simp only [Ee,An,As] at hv;omega
  ·decide
 unfold Utf8.encode;simp only [←f];rw [Ae (by omega)]
 have d:∀n:Nat,n<256→(UInt8.ofNat n).toNat=n:=fun n g=>by simp [Bb];omega
 split
 ·refine ⟨[UInt8.ofNat (192+c / 64),UInt8.ofNat (128+c % 64)],rfl,by simp,by simp,fun b a=>?_⟩
  simp only [Bl,Bn,Dl] at a;rcases a with rfl | rfl <;> rw [d _ (by omega)] <;> omega
 ·split
  ·refine ⟨[UInt8.ofNat (224+c / 4096),UInt8.ofNat (128+c / 64 % 64),UInt8.ofNat (128+c % 64)],rfl,by simp,by simp,fun b a=>?_⟩
   simp only [Bl,Bn,Dl] at a;rcases a with rfl | rfl | rfl <;> rw [d _ (by omega)] <;> omega
  ·refine ⟨[UInt8.ofNat (240+c / 262144),UInt8.ofNat (128+c / 4096 % 64),UInt8.ofNat (128+c / 64 % 64),UInt8.ofNat (128+c % 64)],rfl,by simp,by simp,fun b a=>?_⟩
   simp only [Bl,Bn,Dl] at a;rcases a with rfl | rfl | rfl | rfl <;> rw [d _ (by omega)] <;> omega
theorem pJ:∀ {l:Ub} {c:UInt8},(∀b,b ∈ l→b ≠ c)→Lib.indexByte l c=-1
 | [],_,_=>rfl
 | b::l,c,h=>by
  have a:(b == c)=false:=by simpa using h b (by simp)
  rw [Lib.indexByte,a,pJ (fun b a=>h b (by simp [a]))]
  rfl
theorem ZS (n d a b c:Nat) (e:1≤n) (f:128≤d):128≤(Lib.decodeN n d a b c).1∧((Lib.decodeN n d a b c).2=1∨((Lib.decodeN n d a b c).2=2∧1<n∧128≤a)∨((Lib.decodeN n d a b c).2=3∧2<n∧128≤a∧128≤b)∨((Lib.decodeN n d a b c).2=4∧3<n∧128≤a∧128≤b∧128≤c)):=by
 unfold Lib.decodeN;rw [Ae (by omega)]
 split
 ·split
  ·exact ⟨by assumption,.inr (.inl ⟨rfl,by omega,by omega⟩)⟩
  ·exact ⟨by decide,.inl rfl⟩
 ·split
  ·split
   ·exact ⟨by show 128≤_;omega,.inr (.inr (.inl ⟨rfl,by omega,by omega,by omega⟩))⟩
   ·exact ⟨by decide,.inl rfl⟩
  ·split
   ·split
    ·exact ⟨by show 128≤_;omega,.inr (.inr (.inr ⟨rfl,by omega,by omega,by omega,by omega⟩))⟩
    ·exact ⟨by decide,.inl rfl⟩
   ·exact ⟨by decide,.inl rfl⟩
theorem aEr (s:Bt) (i:Nat) (x:UInt8) (c:s.data.toList[i]?=some x) (h:128≤x.toNat):128≤(Utf8.decode s i).1∧i+(Utf8.decode s i).2≤s.size∧∀j b,i≤j→j<i+(Utf8.decode s i).2→s.data.toList[j]?=some b→128≤b.toNat:=by
 have o:s.data.toList.length=s.size:=by rw [Ah];rfl
 have q:i<s.size:=by rw [←o];exact (List.getElem?_eq_some_iff.1 c).1
 have d:∀k b,s.data.toList[k]?=some b→s.data.toList.getD k 0=b:=fun k b e=>by rw [Cv,e];rfl
 rw [Lib.decode_N s i];obtain ⟨g,p⟩:=ZS (s.data.toList.length - i) (s.data.toList.getD i 0).toNat (s.data.toList.getD (i+1) 0).toNat (s.data.toList.getD (i+2) 0).toNat (s.data.toList.getD (i+3) 0).toNat (by omega) (by rw [d _ _ c];exact h)
 refine ⟨g,by omega,fun j b l n a=>?_⟩
 have:=d j b a;have m:j=i∨j=i+1∨j=i+2∨j=i+3:=by omega
 rcases m with rfl | rfl | rfl | rfl
 ·rw [c] at a;cases a;exact h
 all_goals
  have f:=Ad UInt8.toNat this;omega
theorem aEs (s p:Bt) (w:World):Calls prog 189 #[.string s,.string p] w fun e w'=>e=.returned (.tuple #[.string ⟨(Lib.trimPrefix s.data.toList p.data.toList).toArray⟩,.bool (Lib.hasPrefix s.data.toList p.data.toList)])∧w=w':=(Any.strings_CutPrefix aDj s p w).mono fun e w' h=>⟨h.1,h.2.symm⟩
theorem aDp (s:Bt) (c:Int) (w:World):Calls prog 216 #[.string s,.int .u8 c] w fun e w'=>e=.returned (Iz (Lib.indexByte s.data.toList c.toNat.toUInt8))∧w=w':=(Any.strings_IndexByte aDi s c w).mono fun e w' h=>⟨h.1,h.2.symm⟩
theorem aDo (s:Bt) (r:Int) (w:World) (b:0≤r) (a:r<128):Calls prog 210 #[.string s,.int .i32 r] w fun e w'=>e=.returned (Iz (Lib.indexByte s.data.toList r.toNat.toUInt8))∧w=w':=(Any.strings_IndexRune_ascii aDh s r w b a).mono fun e w' h=>⟨h.1,h.2.symm⟩
theorem VY (r:Int) (w:World) (d:0≤r):Calls prog 217 #[.int .i32 r] w fun e w'=>e=.returned (.bool (decide (r<55296∨(57343<r∧r≤1114111))))∧w=w':=by
 by_cases a:r<55296
 ·rw [Ap (.inl a)]
  go_enter func217,ntmps217
  go_wp2
  go_ret
  exact ⟨rfl,rfl⟩
 ·by_cases c:57343<r
  ·by_cases b:r≤1114111
   ·rw [Ap (.inr ⟨c,b⟩)]
    go_enter func217,ntmps217
    go_wp2
    go_ret
    exact ⟨rfl,rfl⟩
   ·rw [Ar (by omega)]
    go_enter func217,ntmps217
    go_wp2
    go_ret
    exact ⟨rfl,rfl⟩
  ·rw [Ar (by omega)]
   go_enter func217,ntmps217
   go_wp2
   go_ret
   exact ⟨rfl,rfl⟩
theorem QC (n:Int) (w:World):Calls prog 211 #[Iz n] w fun e w'=>e=.returned (.bool (decide (8<n)))∧w=w':=by
 go_enter func211,ntmps211
 go_wp2
 go_ret
 exact ⟨rfl,rfl⟩
theorem YZ (s:Bt) (r:Int) (w:World) (h0:128≤r) (hs:s.size≤100) (T:∀ (j:Nat) b,s.data.toList[j]?=some b→b.toNat<128):Calls prog 210 #[.string s,.int .i32 r] w fun e w'=>e=.returned (Iz (-1))∧Below w.heap.size w w':=by
 have Q:=Hh T;have L:(0:Int)≤r:=by omega
 have xa:¬r<128:=by omega
 clear T
 by_cases p:r=65533
 ·subst p
  go_enter func210,ntmps210
  go_upto_region 38 with fail
  go_loopg [5,6] s.size (fun g _ _ f=>∃i:Nat,i+g=s.size∧f=w.iter s i)
  case atStart=>exact ⟨0,by omega,rfl⟩
  case round=>
   obtain ⟨i,xc,rfl⟩:=hrel;cases gk with
   | zero=>
    obtain rfl:i=s.size:=by omega
    have B:=run_next_end (P:=prog) w s s.size
    go_wp2
    go_ret
    exact ⟨rfl,(Br _ _).alloc (Lr _) _⟩
   | succ g=>
    have K:i<s.size:=by omega
    obtain ⟨x,t⟩:∃x:UInt8,s[i]'K=x:=⟨_,rfl⟩;have A:s.data.toList[i]?=some x:=by rw [←t];exact Lib.data_getElem? s i K
    have d:x.toNat<128:=Q.o i x A;have B:=fun ty=>run_next_ascii (P:=prog) w s i ty K (by rw [t];exact d)
    rw [t] at B;have H:((x.toNat:Int) == 65533)=false:=by simp;omega
    clear A t
    go_wp2
    go_roundg g
    case measure=>omega
    case rel=>exact ⟨i+1,by omega,rfl⟩
 ·have H:(r == 65533)=false:=by simpa using p
  obtain ⟨l,N,C,I,v⟩:=aEm r h0;obtain ⟨m,X⟩:∃m,l.length=m+1:=⟨l.length - 1,by omega⟩
  have D:(Utf8.encode r).size=l.length:=by rw [N];rfl
  have Y:((Utf8.encode r).size:Int) - 1=(m:Int):=by omega
  have F:m+1=(Utf8.encode r).size:=by omega
  have U:(m:Int)<((Utf8.encode r).size:Int):=by omega
  have W:(0:Int)≤(m:Int):=by omega
  have xd:(m:Int)≤3:=by omega
  obtain ⟨y,G⟩:∃y,l[m]?=some y:=⟨_,Ac (by omega)⟩
  have k:=v y (Ao G);have O:(Utf8.encode r).data.toList[m]?=some y:=by rw [N];exact G
  clear N v D X G C I;have M:=Hh (fun f=>VY r f L)
  clear p;generalize decide (r<55296∨(57343<r∧r≤1114111))=b at M;cases b with
  | false=>
   go_enter func210,ntmps210
   go_wp2_with (go_at_call 217;(with_reducible refine (M.o _).mono ?_);rintro e V ⟨rfl,rfl⟩)
   go_ret
   exact ⟨rfl,Br _ _⟩
  | true=>
   go_enter func210,ntmps210
   go_upto_region 5 with ((with_reducible refine (M.o _).mono ?_);rintro e V ⟨rfl,rfl⟩)
   go_step3
   go_upto_region 5 with fail
   go_loopw [9,10] (fun a b wr=>a=Iz (m:Int)∧b=Iz 0∧wr=w) (fun _ _ _=>0)
   case atStart=>exact ⟨rfl,rfl,rfl⟩
   case round=>
    obtain ⟨rfl,rfl,rfl⟩:=hrel
    by_cases n:m<s.size
    ·have z:(m:Int)<(s.size:Int):=by omega
     obtain ⟨x,t⟩:∃x,s.data.toList[m]?=some x:=⟨_,Ac (by rw [Ah];exact n)⟩
     have d:=Q.o _ _ t;have xe:((x.toNat:Int) == (y.toNat:Int))=false:=by simp;omega
     obtain ⟨q,hq⟩:∃q,q=m+1:=⟨_,rfl⟩;have IB:Hid (∀ (c:UInt8) (f:World),128≤c.toNat→Calls prog 216 #[.string (s.extract q s.size),.int .u8 (c.toNat:Int)] f fun e w'=>e=.returned (Iz (-1))∧f=w'):=by
      intro c f hc;have E:∀b,b ∈ (s.extract q s.size).data.toList→b ≠ c:=by
       intro b S e;subst e;rw [ByteArray.data_extract,Array.toList_extract] at S;have J:=List.mem_of_mem_drop (List.mem_of_mem_take (by simpa [List.extract] using S))
       obtain ⟨j,hj⟩:=List.getElem?_of_mem J;have:=Q.o j _ hj;omega
      have h:=aDp (s.extract q s.size) (c.toNat:Int) f
      rwa [show ((c.toNat:Int)).toNat.toUInt8=c by simp,pJ E] at h
     have R:Hid (∀h:m<(Utf8.encode r).size,128≤((Utf8.encode r)[m]'h).toNat):=by
      intro h;have e:=Lib.data_getElem? (Utf8.encode r) m h;rw [O] at e;cases e;exact k
     have Z:((s[m]'n).toNat:Int) ≠ (((Utf8.encode r)[m]'(by omega)).toNat:Int):=by
      have e:=Lib.data_getElem? s m n;rw [t] at e;have e:=Ab e;have:=R.o (by omega)
      rw [←e];omega
     have hw:IntKind.i64.wrap ((m:Int)+1)=(q:Int):=by rw [Cc _ (by omega)];omega
     have xf:(q:Int)≤(s.size:Int):=by omega
     have xb:(0:Int)≤(q:Int):=by omega
     clear F hq
     go_wp2
     go_step3
     go_wp2
     go_quiet (fail)
     go_wp2
     go_quiet (first | (go_at_call 216;(with_reducible refine (IB.o _ _ (R.o _)).mono ?_);exact fun e u h=>⟨h.1,_,h.2.symm⟩))
     go_wp2
     rw [Exit.noGoto_ret]
     go_wp2
     rw [Exit.noGoto_ret]
     go_wp2
     go_ret
     exact ⟨rfl,xM (Br _ _) _⟩
    ·have z:¬ (m:Int)<(s.size:Int):=by omega
     go_wp2
     go_ret
     exact ⟨rfl,Br _ _⟩
theorem IJ (s a:Bt) (w:World) (h2:2≤a.size) (I:a.size≤100) (h8:s.size≤8) (V:∀ (j:Nat) b,a.data.toList[j]?=some b→b.toNat<128):Calls prog 204 #[.string s,.string a] w fun e w'=>e=.returned (Iz (Lib.indexAny s.data.toList a.data.toList))∧Below w.heap.size w w':=by
 have W:=Hh V;clear V;have S:a.toList.isEmpty=false:=by
  rw [Cj];cases h:a.data.toList with
  | nil=>have:=Lib.size_eq a;rw [h,Bz] at this;omega
  | cons _ _=>rfl
 have xb:((a.size:Int) == 1)=false:=Bm.2 (by omega)
 have G:decide ((8:Int)<(s.size:Int))=false:=Ar (by omega)
 go_enter func204,ntmps204
 go_upto_region 18 with ((with_reducible refine (QC _ _).mono ?_);rintro e w' ⟨rfl,rfl⟩;rw [G])
 have v:Below w.heap.size w (w.iter s 0):=(Br _ _).alloc (Lr _) _;have n:(w.iter s 0).heap[w.heap.size]?=some (.stringIter s 0):=World.iter_heap w s 0;generalize w.iter s 0=w0 at v n ⊢
 go_loopw [9,10] (fun _ _ r=>∃i:Nat,i≤s.size∧r.heap[w.heap.size]?=some (.stringIter s i)∧Below w.heap.size w r∧Lib.NoAny s.data.toList a.data.toList i) (fun _ _ r=>s.size - r.iterPos w.heap.size)
 case atStart=>exact ⟨0,Av _,n,v,Lib.NoAny.zero _ _⟩
 case round=>
  clear v n;obtain ⟨i,Z,l,u,A⟩:=hrel;have C:=Hh A;clear A;have g:=iterPos_of l
  by_cases E:i<s.size
  ·obtain ⟨x,U⟩:∃x:UInt8,s[i]'E=x:=⟨_,rfl⟩
   have p:s.data.toList[i]?=some x:=by rw [←U];exact Lib.data_getElem? s i E
   have m:∀ty,(Instr.next (.pointer (some ⟨w.heap.size,0,none⟩)) true ty).run prog wr=_:=fun ty=>Lib.run_next_any_at wr w.heap.size s i ty l E
   have c:=Lib.iterAt_heap wr w.heap.size s i (i+(Utf8.decode s i).2) l;have f:=Lib.below_iterAt u (k:=w.heap.size) (Lr _) s (i+(Utf8.decode s i).2);obtain ⟨L,z⟩:∃L,L=wr.iterAt w.heap.size s (i+(Utf8.decode s i).2):=⟨_,rfl⟩;rw [←z] at m c f;have K:=Hh p;clear z l u U
   by_cases t:x.toNat<128
   ·have O:Utf8.decode s i=(x.toNat,1):=by
     rw [Lib.decode_N s i,show s.data.toList.getD i 0=x by rw [Cv,p];rfl]
     exact Lib.decodeN_ascii _ _ _ _ _ t
    rw [O] at m c;clear O p;have d:=Lib.contains_iff_indexByte a.data.toList x;have R:=Hh (fun r=>aDo a (x.toNat:Int) r (by omega) (by omega))
    rw [show ((x.toNat:Int)).toNat.toUInt8=x by simp] at R
    cases hin:a.data.toList.contains x
    ·rw [hin] at d
     have xa:¬ ((0:Int)≤Lib.indexByte a.data.toList x):=of_decide_eq_false d.symm;clear d
     go_wp2_with (go_at_call 210;(with_reducible refine (R.o _).mono ?_);rintro e w' ⟨rfl,rfl⟩)
     go_roundw
     case rel=>exact ⟨i+1,by omega,c,f,C.o.succ K.o hin⟩
     case measure=>rw [iterPos_of c,g];show s.size - (i+1)<_;omega
    ·rw [hin] at d
     have xc:(0:Int)≤Lib.indexByte a.data.toList x:=Ci d.symm;clear d
     go_wp2_with (go_at_call 210;(with_reducible refine (R.o _).mono ?_);rintro e w' ⟨rfl,rfl⟩)
     go_ret
     exact ⟨by rw [Lib.indexAny_hit C.o K.o hin];rfl,f⟩
   ·obtain ⟨P,Q,N⟩:=aEr s i x p (by omega)
    have M:=Lib.width_pos s i;have R:=Hh (fun r=>YZ a ((Utf8.decode s i).1:Int) r (by omega) I W.o)
    have J:=Hh N;have B:=Aa c;clear p N;generalize Utf8.decode s i=D at m c P Q M R J;obtain ⟨D1,X⟩:=D;simp only at m c P Q M R J
    go_wp2_with (go_at_call 210;(with_reducible refine (R.o _).mono ?_);rintro e w2 ⟨rfl,y⟩)
    go_roundw
    case rel=>
     refine ⟨i+X,by omega,(y.block _ B).trans c,f.trans (y.mono f.size),?_⟩
     intro j b hj T
     by_cases H:j<i
     ·exact C.o j b H T
     ·have F:=J.o j b (by omega) hj T
      have:¬b ∈ a.data.toList:=by
       intro Y;obtain ⟨q,hq⟩:=List.getElem?_of_mem Y;have:=W.o q b hq;omega
      simpa using this
    case measure=>rw [iterPos_of ((y.block _ B).trans c),g];omega
  ·obtain rfl:i=s.size:=by omega
   have m:∀ty,(Instr.next (.pointer (some ⟨w.heap.size,0,none⟩)) true ty).run prog wr=_:=fun ty=>Lib.run_next_end_at wr w.heap.size s s.size ty l E
   go_wp2
   go_ret
   exact ⟨by rw [Lib.indexAny_none (by rw [←Lib.size_eq];exact C.o)];rfl,u⟩
theorem RU (s a:Bt) (w:World) (d:2≤a.size) (c:a.size≤100) (i:s.size≤1000000) (f:∀ (j:Nat) b,a.data.toList[j]?=some b→b.toNat<128):Calls prog 204 #[.string s,.string a] w fun e w'=>e=.returned (Iz (Lib.indexAny s.data.toList a.data.toList))∧Below w.heap.size w w':=by
 by_cases g:s.size≤8
 ·exact IJ s a w d c g f
 ·refine (Any.strings_IndexAny_long aDg (fun w=>by kernel_rfl) (by kernel_rfl) s a w d (by omega) (by omega) (by omega) f).mono fun e w' h=>⟨h.1,?_⟩
  rw [h.2];exact ((Br _ _).alloc (Lr _) _).alloc (by simp) _
end Go.Proofs.YtncdpanfefnjlaaGreatDoor