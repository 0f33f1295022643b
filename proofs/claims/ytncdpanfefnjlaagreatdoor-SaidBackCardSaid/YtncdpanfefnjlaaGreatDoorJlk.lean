import Derived.Test.YtncdpanfefnjlaaGreatDoorProg
import Derived.Test.YtncdpanfefnjlaaGreatDoorRows
import Derived.Test.YtncdpanfefnjlaaGreatDoorJmap
set_option linter.unusedVariables false
set_option linter.unusedSimpArgs false
set_option maxHeartbeats 8000000
set_option maxRecDepth 1000000
namespace Go.Proofs.YtncdpanfefnjlaaGreatDoor
open Go.Proofs.Tryz
open Go.Lib
def eI (c:UInt8):Bool:=decide (48≤c) && decide (c≤57)
def jR (l:Ub):Nat:=l.foldl (fun a c=>a * 10+(c.toNat - 48)) 0
theorem LY (l:Ub) (c:UInt8):jR (l++[c])=jR l * 10+(c.toNat - 48):=by unfold jR;rw [List.foldl_append];rfl
def zZ (neg:Bool) (t:Ub):Option (ND × Ub):=
 if (t.takeWhile eI).length=0∨19<(t.takeWhile eI).length then none
 else if (neg=false∧9223372036854775807<jR (t.takeWhile eI))∨9223372036854775808<jR (t.takeWhile eI) then none
 else some (.mk 2 false (if neg then -(jR (t.takeWhile eI):Int) else (jR (t.takeWhile eI):Int)) ⟨#[]⟩ [] [],t.dropWhile eI)
def pH (t:Ub):Option (ND × Ub):=if t.head?=some 45 then zZ true t.tail else zZ false t
theorem aCy:∀v:Nat,v<10→eI (UInt8.ofNat (48+v))=true∧(UInt8.ofNat (48+v)).toNat - 48=v:=by
 have:∀v:Fin 10,eI (UInt8.ofNat (48+v.1))=true∧(UInt8.ofNat (48+v.1)).toNat - 48=v.1:=by decide +kernel
 exact fun v hv=>this ⟨v,hv⟩
theorem jE:∀ (n u:Nat),u≤n→(∀c,c ∈ decDigits u→eI c=true)∧jR (decDigits u)=u
 | n,u,hn=>by
  by_cases h:u<10
  ·rw [decDigits_one h]
   have:=aCy u h;refine ⟨fun c hc=>by rw [At.1 hc];exact this.1,?_⟩
   show 0 * 10+((UInt8.ofNat (48+u)).toNat - 48)=u
   rw [this.2];omega
  ·rw [decDigits,dif_neg h]
   cases n with
   | zero=>omega
   | succ n=>
    have ih:=jE n (u / 10) (by omega)
    have:=aCy (u % 10) (by omega)
    refine ⟨fun c hc=>?_,?_⟩
    ·rcases Bb.1 hc with hc | hc
     ·exact ih.1 c hc
     ·rw [At.1 hc];exact this.1
    ·rw [LY,ih.2,this.2];omega
theorem zD:∀ (k u:Nat),u<10 ^ (k+1)→nDigits u≤k+1
 | 0,u,h=>by rw [nDigits_small (by simpa using h)];omega
 | k+1,u,h=>by
  by_cases h1:u<10
  ·rw [nDigits_small h1];omega
  ·rw [nDigits_big h1]
   have:=zD k (u / 10) (by rw [Dt] at h;omega)
   omega
def okR (t:Ub):Prop:=∀c,t.head?=some c→eI c=false
theorem yA {l t:Ub} (hl:∀c,c ∈ l→eI c=true) (ht:okR t):(l++t).takeWhile eI=l∧(l++t).dropWhile eI=t:=by
 have h:t.takeWhile eI=[]∧t.dropWhile eI=t:=by
  cases t with
  | nil=>exact ⟨rfl,rfl⟩
  | cons c r=>
   have:=ht c rfl;rw [List.takeWhile_cons,List.dropWhile_cons,this];exact ⟨rfl,rfl⟩
 rw [List.takeWhile_append_of_pos hl,List.dropWhile_append_of_pos hl,h.1,h.2,Bu];exact ⟨rfl,rfl⟩
theorem zY {u:Nat} {neg:Bool} {t:Ub} (hu:u≤9223372036854775808) (hn:neg=false→u≤9223372036854775807) (ht:okR t):zZ neg (decDigits u++t)=some (.mk 2 false (if neg then -(u:Int) else (u:Int)) ⟨#[]⟩ [] [],t):=by
 obtain ⟨h1,h2⟩:=jE u u (Lr _);obtain ⟨h3,h4⟩:=yA h1 ht;unfold zZ;rw [h3,h4,h2];have hl:(decDigits u).length=nDigits u:=decDigits_length u;have hp:=nDigits_pos u;have hq:=zD 18 u (by omega)
 have hno:¬ ((neg=false∧9223372036854775807<u)∨9223372036854775808<u):=by
  rintro (⟨e,h⟩ | h)
  ·have:=hn e;omega
  ·omega
 rw [Af (by omega),Af hno]
theorem uF (z:Int):∃c r,itoa z=c::r∧(c=45∨eI c=true):=by
 have hd:∀u,∃c r,decDigits u=c::r∧eI c=true:=by
  intro u;obtain ⟨h1,-⟩:=jE u u (Lr _);have hl:(decDigits u).length=nDigits u:=decDigits_length u;have hp:=nDigits_pos u;cases h:decDigits u with
  | nil=>rw [h] at hl;simp at hl;omega
  | cons c r=>exact ⟨c,r,rfl,h1 c (by rw [h];simp)⟩
 unfold itoa
 split
 ·exact ⟨45,_,rfl,.inl rfl⟩
 ·obtain ⟨c,r,h,hc⟩:=hd z.toNat
  exact ⟨c,r,h,.inr hc⟩
theorem oM {c:UInt8} (h:eI c=true):48≤c.toNat∧c.toNat≤57:=by
 unfold eI at h;rw [Ak,Av,Av] at h;exact ⟨UInt8.le_iff_toNat_le.1 h.1,UInt8.le_iff_toNat_le.1 h.2⟩
theorem FH {z:Int} {t:Ub} (hz:dD z=true) (ht:okR t):pH (itoa z++t)=some (.mk 2 false z ⟨#[]⟩ [] [],t):=by
 unfold dD at hz;rw [Ak,Av,Av] at hz
 by_cases h:z<0
 ·have e:itoa z=45::decDigits z.natAbs:=by unfold itoa;rw [Am h]
  rw [e]
  show zZ true (decDigits z.natAbs++t)=_
  rw [zY (by omega) (fun e=>by cases e) ht]
  rw [Am rfl,show -(z.natAbs:Int)=z by omega]
 ·have e:itoa z=decDigits z.toNat:=by unfold itoa;rw [Af h]
  have hh:(itoa z++t).head? ≠ some 45:=by
   obtain ⟨c,r,h1,h2⟩:=uF z;obtain ⟨h3,-⟩:=jE z.toNat z.toNat (Lr _);rw [e] at h1;have:=oM (h3 c (by rw [h1];simp))
   rw [e,h1]
   show some c ≠ some 45
   intro e';have e':=Ab e';subst e'
   revert this;decide
  unfold pH;rw [Af hh,e,zY (by omega) (fun _=>by omega) ht]
  rw [Af (by decide),show (z.toNat:Int)=z by omega]
def zC (mp:Bool) (ns:List Bt) (t:Ub):Option (List Bt × Ub):=
 if mp then match t with
  | 34::r=>match cT r with
   | some (o,58::r')=>some (ns++[⟨o.toArray⟩],r')
   | _=>none
  | _=>none
 else some (ns,t)
def cX (V:Ub→Option (ND × Ub)) (mp:Bool) (e:UInt8):Nat→List Bt→List ND→Ub→Option ((List Bt × List ND) × Ub)
 | 0,_,_,_=>none
 | n+1,ns,its,t=>
  if its=[]∧t.head?=some e then some ((ns,its),t.tail)
  else match zC mp ns t with
   | none=>none
   | some (ns',t1)=>match V t1 with
    | none=>none
    | some (x,t2)=>match t2 with
     | []=>none
     | c::t3=>if c=e then some ((ns',its++[x]),t3) else if c ≠ 44∨256<its.length+1 then none else cX V mp e n ns' (its++[x]) t3
def bR:Nat→Ub→Option (ND × Ub)
 | 0,_=>none
 | d+1,t=>
  if t=[] then none
  else if List.isPrefixOf [110,117,108,108] t=true then some (nd0,t.drop 4)
  else if List.isPrefixOf [116,114,117,101] t=true then some (.mk 1 true 0 ⟨#[]⟩ [] [],t.drop 4)
  else if List.isPrefixOf [102,97,108,115,101] t=true then some (.mk 1 false 0 ⟨#[]⟩ [] [],t.drop 5)
  else if t.head?=some 34 then (cT t.tail).map fun x=>(.mk 3 false 0 ⟨x.1.toArray⟩ [] [],x.2)
  else if t.head?=some 91 then (cX (bR d) false 93 t.length [] [] t.tail).map fun x=>(.mk 4 false 0 ⟨#[]⟩ x.1.1 x.1.2,x.2)
  else if t.head?=some 123 then (cX (bR d) true 125 t.length [] [] t.tail).map fun x=>(.mk 5 false 0 ⟨#[]⟩ x.1.1 x.1.2,x.2)
  else pH t
theorem vH (d:Nat) (c:UInt8) (r:Ub):bR (d+1) (c::r) =
 if List.isPrefixOf [110,117,108,108] (c::r)=true then some (nd0,(c::r).drop 4)
 else if List.isPrefixOf [116,114,117,101] (c::r)=true then some (.mk 1 true 0 ⟨#[]⟩ [] [],(c::r).drop 4)
 else if List.isPrefixOf [102,97,108,115,101] (c::r)=true then some (.mk 1 false 0 ⟨#[]⟩ [] [],(c::r).drop 5)
 else if c=34 then (cT r).map fun x=>(.mk 3 false 0 ⟨x.1.toArray⟩ [] [],x.2)
 else if c=91 then (cX (bR d) false 93 (r.length+1) [] [] r).map fun x=>(.mk 4 false 0 ⟨#[]⟩ x.1.1 x.1.2,x.2)
 else if c=123 then (cX (bR d) true 125 (r.length+1) [] [] r).map fun x=>(.mk 5 false 0 ⟨#[]⟩ x.1.1 x.1.2,x.2)
 else pH (c::r):=by
 conv=>lhs;unfold bR
 rw [Af (by simp)]
 simp only [List.head?_cons,Option.some.injEq,List.tail_cons,Ag]
theorem tV {a c:UInt8} {l r:Ub} (h:c ≠ a):¬List.isPrefixOf (a::l) (c::r)=true:=by
 intro e;rw [List.isPrefixOf_cons_cons,Ak] at e;exact h (eq_of_beq e.1).symm
theorem fQ (d:Nat) (c:UInt8) (r:Ub) (h1:c ≠ 110) (h2:c ≠ 116) (h3:c ≠ 102):bR (d+1) (c::r) =
 if c=34 then (cT r).map fun x=>(.mk 3 false 0 ⟨x.1.toArray⟩ [] [],x.2)
 else if c=91 then (cX (bR d) false 93 (r.length+1) [] [] r).map fun x=>(.mk 4 false 0 ⟨#[]⟩ x.1.1 x.1.2,x.2)
 else if c=123 then (cX (bR d) true 125 (r.length+1) [] [] r).map fun x=>(.mk 5 false 0 ⟨#[]⟩ x.1.1 x.1.2,x.2)
 else pH (c::r):=by
 rw [vH,Af (tV h1),Af (tV h2),Af (tV h3)]
theorem jA {d:Nat} {x:ND} (h:aB (d+1) x=true):x=nd0∨(x=.mk 1 x.bool 0 ⟨#[]⟩ [] [])∨(x=.mk 2 false x.num ⟨#[]⟩ [] [])∨(x=.mk 3 false 0 x.text [] [])∨(x=.mk 4 false 0 ⟨#[]⟩ [] x.items)∨(x=.mk 5 false 0 ⟨#[]⟩ x.names x.items∧x.names.length=x.items.length):=by
 rw [cQ,Ak] at h;obtain ⟨hf,-⟩:=h;unfold eQ at hf;simp only [Ak,Dw,Av,Bool.not_eq_true'] at hf;obtain ⟨⟨⟨⟨⟨⟨⟨⟨⟨⟨⟨h0,h5⟩,hb⟩,hn⟩,ht⟩,hi⟩,hm⟩,-⟩,-⟩,hl⟩,-⟩,-⟩:=hf;obtain ⟨k,b,n,t,ns,its⟩:=x;simp only [ND.kind,ND.bool,ND.num,ND.text,ND.names,ND.items] at *;have hcase:k=0∨k=1∨k=2∨k=3∨k=4∨k=5:=by omega
 have e1:k ≠ 1→b=false:=fun h=>hb.resolve_right h
 have e2:k ≠ 2→n=0:=fun h=>hn.resolve_right h
 have e3:k ≠ 3→t=⟨#[]⟩:=fun h=>ht.resolve_right h
 have e4:k<4→its=[]:=fun h=>Au.1 (hi.resolve_right (by omega))
 have e5:k ≠ 5→ns=[]:=fun h=>Au.1 (hm.resolve_right h)
 rcases hcase with rfl | rfl | rfl | rfl | rfl | rfl
 ·left;rw [e1 (by decide),e2 (by decide),e3 (by decide),e4 (by decide),e5 (by decide)];rfl
 ·right;left;rw [e2 (by decide),e3 (by decide),e4 (by decide),e5 (by decide)]
 ·right;right;left;rw [e1 (by decide),e3 (by decide),e4 (by decide),e5 (by decide)]
 ·right;right;right;left;rw [e1 (by decide),e2 (by decide),e4 (by decide),e5 (by decide)]
 ·right;right;right;right;left;rw [e1 (by decide),e2 (by decide),e3 (by decide),e5 (by decide)]
 ·right;right;right;right;right;rw [e1 (by decide),e2 (by decide),e3 (by decide)];exact ⟨rfl,hl.resolve_left (by decide)⟩
theorem vB {d:Nat} {x:ND} (h:aB (d+1) x=true):∃c r,aT (d+1) x=c::r∧c ≠ 93∧c ≠ 125:=by
 rcases jA h with e | e | e | e | e | ⟨e,-⟩ <;> rw [e]
 ·exact ⟨110,_,rfl,by decide,by decide⟩
 ·cases x.bool
  ·exact ⟨102,_,rfl,by decide,by decide⟩
  ·exact ⟨116,_,rfl,by decide,by decide⟩
 ·obtain ⟨c,r,h1,h2⟩:=uF x.num
  refine ⟨c,r,h1,?_,?_⟩
  all_goals
   intro e;subst e;rcases h2 with h2 | h2 <;> revert h2 <;> decide
 ·exact ⟨34,_,rfl,by decide,by decide⟩
 ·exact ⟨91,_,rfl,by decide,by decide⟩
 ·exact ⟨123,_,rfl,by decide,by decide⟩
theorem sK {c:UInt8} {r:Ub} (h:eI c=false):okR (c::r):=fun c' e=>by cases e;exact h
theorem tT {a:Ub} {l:List (Ub)}:l ≠ []→dV (a::l)=a++44::dV l:=by
 intro h;cases l with
 | nil=>exact absurd rfl h
 | cons b t=>rfl
theorem DK {V:Ub→Option (ND × Ub)} {W:ND→Ub} {t:Ub}:∀ (its:List ND) (n:Nat) (done:List ND),its ≠ []→its.length≤n→done.length+its.length≤256 →
 (∀y,y ∈ its→(∀r,okR r→V (W y++r)=some (y,r))∧∃c r,W y=c::r∧c ≠ 93) →
 cX V false 93 n [] done (dV (its.map W)++93::t)=some (([],done++its),t)
 | [],_,_,h,_,_,_=>absurd rfl h
 | y::ys,0,_,_,h,_,_=>by simp at h
 | y::ys,n+1,done,_,hn,hd,hy=>by
  obtain ⟨hv,c,r,hc,hne⟩:=hy y (by simp)
  have hhead:¬ (done=[]∧(dV ((y::ys).map W)++93::t).head?=some 93):=by
   rintro ⟨-,h⟩;have:(dV ((y::ys).map W)++93::t).head?=some c:=by
    cases ys with
    | nil=>show (W y++93::t).head?=_;rw [hc];rfl
    | cons z zs=>rw [Bj,tT (by simp),hc];rfl
   rw [this] at h;exact hne (Ab h)
  unfold cX;rw [Af hhead]
  show (match V (dV ((y::ys).map W)++93::t) with
   | none=>none
   | some (x,t2)=>match t2 with
    | []=>none
    | c::t3=>if c=93 then some (([],done++[x]),t3) else if c ≠ 44∨256<done.length+1 then none else cX V false 93 n [] (done++[x]) t3)=_
  cases ys with
  | nil=>
   show (match V (W y++93::t) with | none=>none | some (x,t2)=>_)=_
   rw [hv _ (sK (by decide))]
   rfl
  | cons z zs=>
   rw [Bj,tT (by simp),Aj,Bm,hv _ (sK (by decide))]
   have ih:=DK (V:=V) (W:=W) (t:=t) (z::zs) n (done++[y]) (by simp) (by simpa using hn) (by simp at hd ⊢;omega) (fun w hw=>hy w (by simp at hw ⊢;exact .inr hw))
   show (if (44:UInt8)=93 then _ else if (44:UInt8) ≠ 44∨256<done.length+1 then none else cX V false 93 n [] (done++[y]) (dV ((z::zs).map W)++93::t))=_
   rw [Af (by decide),Af (by simp at hd ⊢;omega),ih]
   simp
end Go.Proofs.YtncdpanfefnjlaaGreatDoor
namespace Go.Proofs.YtncdpanfefnjlaaGreatDoor
open Go.Proofs.Tryz
open Go.Shelf Go.RowKit Go.Lib
def XD:Go.Shelf.Ren:=⟨fun | 103=>189 | 119=>217 | 129=>184 | 137=>216 | 152=>210 | 153=>204 | 171=>99 | 172=>193 | 205=>182 | 206=>94 | 210=>203 | 217=>220 | 224=>218 | 225=>219 | 226=>211 | 227=>212 | 228=>213 | 243=>121 | 244=>207 | 245=>136 | 246=>137 | 247=>135 | 266=>221 | 279=>152 | 280=>153 | 281=>154 | 282=>155 | 283=>156 | 284=>157 | 285=>158 | 286=>159 | 287=>151 | 316=>181 | 317=>183 | 318=>185 | 319=>186 | 320=>187 | 321=>179 | 322=>180 | 337=>201 | 338=>202 | n=>n,fun | 0=>0 | 2=>2 | 3=>3 | 4=>4 | 5=>5 | 9=>9 | 20=>20 | 21=>21 | 24=>111 | 37=>69 | 46=>85 | 51=>106 | 53=>130 | 75=>94 | 76=>95 | 80=>44 | 85=>151 | 116=>262 | 117=>263 | 124=>267 | 127=>133 | 143=>253 | 145=>255 | 167=>194 | 168=>197 | 171=>200 | 173=>203 | 175=>195 | 210=>233 | 212=>236 | 213=>237 | 232=>109 | 233=>259 | n=>n,fun | 15=>6 | 16=>7 | 17=>8 | 18=>10 | 19=>11 | n=>n⟩
theorem aBr:Go.Proofs.Lays.n103 prog XD:={
 mixed:=by kernel_rfl
 f103:=Tryz.func189.trans (Ad some (by kernel_rfl))
 f206:=Tryz.func94.trans (Ad some (by kernel_rfl))
 f210:=Tryz.func203.trans (Ad some (by kernel_rfl))
 t3:=underlying3
 a3:=isAgg3
 z3:=sizeOf3
 v3:=zeroValue3
 t4:=underlying4
 a4:=isAgg4
 z4:=sizeOf4
 v4:=zeroValue4
 t9:=underlying9
 a9:=isAgg9
 z9:=sizeOf9
 v9:=zeroValue9
 t24:=underlying111
 a24:=isAgg111
 z24:=sizeOf111
 v24:=zeroValue111
}
theorem aBq:Go.Proofs.Lays.n137 prog XD:={
 mixed:=by kernel_rfl
 f137:=Tryz.func216.trans (Ad some (by kernel_rfl))
 f217:=Tryz.func220.trans (Ad some (by kernel_rfl))
 f266:=Tryz.func221.trans (Ad some (by kernel_rfl))
 t3:=underlying3
 a3:=isAgg3
 z3:=sizeOf3
 v3:=zeroValue3
 t5:=underlying5
 a5:=isAgg5
 z5:=sizeOf5
 v5:=zeroValue5
 t9:=underlying9
 a9:=isAgg9
 z9:=sizeOf9
 v9:=zeroValue9
}
theorem aBp:Go.Proofs.Lays.n152 prog XD:={
 mixed:=by kernel_rfl
 f119:=Tryz.func217.trans (Ad some (by kernel_rfl))
 f137:=Tryz.func216.trans (Ad some (by kernel_rfl))
 f152:=Tryz.func210.trans (Ad some (by kernel_rfl))
 f217:=Tryz.func220.trans (Ad some (by kernel_rfl))
 f224:=Tryz.func218.trans (Ad some (by kernel_rfl))
 f225:=Tryz.func219.trans (Ad some (by kernel_rfl))
 f266:=Tryz.func221.trans (Ad some (by kernel_rfl))
 t0:=underlying0
 a0:=isAgg0
 z0:=sizeOf0
 v0:=zeroValue0
 t3:=underlying3
 a3:=isAgg3
 z3:=sizeOf3
 v3:=zeroValue3
 t4:=underlying4
 a4:=isAgg4
 z4:=sizeOf4
 v4:=zeroValue4
 t5:=underlying5
 a5:=isAgg5
 z5:=sizeOf5
 v5:=zeroValue5
 t9:=underlying9
 a9:=isAgg9
 z9:=sizeOf9
 v9:=zeroValue9
 t21:=underlying21
 a21:=isAgg21
 z21:=sizeOf21
 v21:=zeroValue21
 t46:=underlying85
 a46:=isAgg85
 z46:=sizeOf85
 v46:=zeroValue85
}
theorem aBo:Go.Proofs.Lays.n153 prog XD:={
 mixed:=by kernel_rfl
 f119:=Tryz.func217.trans (Ad some (by kernel_rfl))
 f137:=Tryz.func216.trans (Ad some (by kernel_rfl))
 f152:=Tryz.func210.trans (Ad some (by kernel_rfl))
 f153:=Tryz.func204.trans (Ad some (by kernel_rfl))
 f217:=Tryz.func220.trans (Ad some (by kernel_rfl))
 f224:=Tryz.func218.trans (Ad some (by kernel_rfl))
 f225:=Tryz.func219.trans (Ad some (by kernel_rfl))
 f226:=Tryz.func211.trans (Ad some (by kernel_rfl))
 f227:=Tryz.func212.trans (Ad some (by kernel_rfl))
 f228:=Tryz.func213.trans (Ad some (by kernel_rfl))
 f266:=Tryz.func221.trans (Ad some (by kernel_rfl))
 t0:=underlying0
 a0:=isAgg0
 z0:=sizeOf0
 v0:=zeroValue0
 t3:=underlying3
 a3:=isAgg3
 z3:=sizeOf3
 v3:=zeroValue3
 t4:=underlying4
 a4:=isAgg4
 z4:=sizeOf4
 v4:=zeroValue4
 t5:=underlying5
 a5:=isAgg5
 z5:=sizeOf5
 v5:=zeroValue5
 t9:=underlying9
 a9:=isAgg9
 z9:=sizeOf9
 v9:=zeroValue9
 t21:=underlying21
 a21:=isAgg21
 z21:=sizeOf21
 v21:=zeroValue21
 t46:=underlying85
 a46:=isAgg85
 z46:=sizeOf85
 v46:=zeroValue85
 t116:=underlying262
 a116:=isAgg262
 z116:=sizeOf262
 t117:=underlying263
 a117:=isAgg263
 z117:=sizeOf263
 v117:=zeroValue263
 t124:=underlying267
 a124:=isAgg267
 z124:=sizeOf267
 v124:=zeroValue267
}
theorem zN:Go.Proofs.LaysC.n172 prog XD:={
 mixed:=by kernel_rfl
 f129:=Tryz.func184.trans (Ad some (by kernel_rfl))
 f171:=Tryz.func99.trans (Ad some (by kernel_rfl))
 f172:=Tryz.func193.trans (Ad some (by kernel_rfl))
 f205:=Tryz.func182.trans (Ad some (by kernel_rfl))
 f243:=Tryz.func121.trans (Ad some (by kernel_rfl))
 f244:=Tryz.func207.trans (Ad some (by kernel_rfl))
 f245:=Tryz.func136.trans (Ad some (by kernel_rfl))
 f246:=Tryz.func137.trans (Ad some (by kernel_rfl))
 f247:=Tryz.func135.trans (Ad some (by kernel_rfl))
 f279:=Tryz.func152.trans (Ad some (by kernel_rfl))
 f280:=Tryz.func153.trans (Ad some (by kernel_rfl))
 f281:=Tryz.func154.trans (Ad some (by kernel_rfl))
 f282:=Tryz.func155.trans (Ad some (by kernel_rfl))
 f283:=Tryz.func156.trans (Ad some (by kernel_rfl))
 f284:=Tryz.func157.trans (Ad some (by kernel_rfl))
 f285:=Tryz.func158.trans (Ad some (by kernel_rfl))
 f286:=Tryz.func159.trans (Ad some (by kernel_rfl))
 f287:=Tryz.func151.trans (Ad some (by kernel_rfl))
 f316:=Tryz.func181.trans (Ad some (by kernel_rfl))
 f317:=Tryz.func183.trans (Ad some (by kernel_rfl))
 f318:=Tryz.func185.trans (Ad some (by kernel_rfl))
 f319:=Tryz.func186.trans (Ad some (by kernel_rfl))
 f320:=Tryz.func187.trans (Ad some (by kernel_rfl))
 f321:=Tryz.func179.trans (Ad some (by kernel_rfl))
 f322:=Tryz.func180.trans (Ad some (by kernel_rfl))
 f337:=Tryz.func201.trans (Ad some (by kernel_rfl))
 f338:=Tryz.func202.trans (Ad some (by kernel_rfl))
 t0:=underlying0
 a0:=isAgg0
 z0:=sizeOf0
 v0:=zeroValue0
 t2:=underlying2
 a2:=isAgg2
 z2:=sizeOf2
 v2:=zeroValue2
 t3:=underlying3
 a3:=isAgg3
 z3:=sizeOf3
 v3:=zeroValue3
 t4:=underlying4
 a4:=isAgg4
 z4:=sizeOf4
 v4:=zeroValue4
 t5:=underlying5
 a5:=isAgg5
 z5:=sizeOf5
 v5:=zeroValue5
 t9:=underlying9
 a9:=isAgg9
 z9:=sizeOf9
 v9:=zeroValue9
 t20:=underlying20
 a20:=isAgg20
 z20:=sizeOf20
 v20:=zeroValue20
 t21:=underlying21
 a21:=isAgg21
 z21:=sizeOf21
 v21:=zeroValue21
 t37:=underlying69
 a37:=isAgg69
 z37:=sizeOf69
 v37:=zeroValue69
 t46:=underlying85
 a46:=isAgg85
 z46:=sizeOf85
 v46:=zeroValue85
 t51:=underlying106
 a51:=isAgg106
 z51:=sizeOf106
 v51:=zeroValue106
 t53:=underlying130
 a53:=isAgg130
 z53:=sizeOf130
 v53:=zeroValue130
 t75:=underlying94
 a75:=isAgg94
 z75:=sizeOf94
 v75:=zeroValue94
 t76:=underlying95
 a76:=isAgg95
 z76:=sizeOf95
 v76:=zeroValue95
 t85:=underlying151
 a85:=isAgg151
 z85:=sizeOf151
 v85:=zeroValue151
 t127:=underlying133
 a127:=isAgg133
 z127:=sizeOf133
 v127:=zeroValue133
 t143:=underlying253
 a143:=isAgg253
 z143:=sizeOf253
 v143:=zeroValue253
 t145:=underlying255
 a145:=isAgg255
 z145:=sizeOf255
 v145:=zeroValue255
 t167:=underlying194
 a167:=isAgg194
 z167:=sizeOf194
 v167:=zeroValue194
 t168:=underlying197
 a168:=isAgg197
 z168:=sizeOf197
 v168:=zeroValue197
 t171:=underlying200
 a171:=isAgg200
 z171:=sizeOf200
 v171:=zeroValue200
 t173:=underlying203
 a173:=isAgg203
 z173:=sizeOf203
 v173:=zeroValue203
 t175:=underlying195
 a175:=isAgg195
 z175:=sizeOf195
 v175:=zeroValue195
 t210:=underlying233
 a210:=isAgg233
 z210:=sizeOf233
 v210:=zeroValue233
 t212:=underlying236
 a212:=isAgg236
 z212:=sizeOf236
 v212:=zeroValue236
 t213:=underlying237
 a213:=isAgg237
 z213:=sizeOf237
 t232:=underlying109
 a232:=isAgg109
 z232:=sizeOf109
 v232:=zeroValue109
 t233:=underlying259
 a233:=isAgg259
 z233:=sizeOf259
 v233:=zeroValue259
 g15:=by kernel_rfl
 g16:=by kernel_rfl
 g17:=by kernel_rfl
 g18:=by kernel_rfl
 g19:=by kernel_rfl
 t80:=underlying44
 a80:=isAgg44
 z80:=sizeOf44
 v80:=zeroValue44
 i0:=by kernel_rfl
 i2:=by kernel_rfl
 i3:=by kernel_rfl
 i4:=by kernel_rfl
 i5:=by kernel_rfl
 i9:=by kernel_rfl
 i20:=by kernel_rfl
 i21:=by kernel_rfl
 i37:=by kernel_rfl
 i46:=by kernel_rfl
 i51:=by kernel_rfl
 i53:=by kernel_rfl
 i75:=by kernel_rfl
 i76:=by kernel_rfl
 i80:=by kernel_rfl
 i85:=by kernel_rfl
 i127:=by kernel_rfl
 i143:=by kernel_rfl
 i145:=by kernel_rfl
 i167:=by kernel_rfl
 i168:=by kernel_rfl
 i171:=by kernel_rfl
 i173:=by kernel_rfl
 i175:=by kernel_rfl
 i210:=by kernel_rfl
 i212:=by kernel_rfl
 i232:=by kernel_rfl
 i233:=by kernel_rfl
 m15:=by kernel_rfl
 m16:=by kernel_rfl
 m17:=by kernel_rfl
 m18:=by kernel_rfl
 m19:=by kernel_rfl
 c0:=by kernel_rfl
 c2:=by kernel_rfl
 c3:=by kernel_rfl
 c4:=by kernel_rfl
 c5:=by kernel_rfl
 c9:=by kernel_rfl
 c20:=by kernel_rfl
 c21:=by kernel_rfl
 c37:=by kernel_rfl
 c46:=by kernel_rfl
 c51:=by kernel_rfl
 c53:=by kernel_rfl
 c75:=by kernel_rfl
 c76:=by kernel_rfl
 c80:=by kernel_rfl
 c85:=by kernel_rfl
 c127:=by kernel_rfl
 c143:=by kernel_rfl
 c145:=by kernel_rfl
 c167:=by kernel_rfl
 c168:=by kernel_rfl
 c171:=by kernel_rfl
 c173:=by kernel_rfl
 c175:=by kernel_rfl
 c210:=by kernel_rfl
 c212:=by kernel_rfl
 c213:=by kernel_rfl
 c232:=by kernel_rfl
 c233:=by kernel_rfl
}
theorem aBn:Go.Proofs.LaysC.n245 prog XD:={
 mixed:=by kernel_rfl
 f129:=Tryz.func184.trans (Ad some (by kernel_rfl))
 f171:=Tryz.func99.trans (Ad some (by kernel_rfl))
 f205:=Tryz.func182.trans (Ad some (by kernel_rfl))
 f243:=Tryz.func121.trans (Ad some (by kernel_rfl))
 f245:=Tryz.func136.trans (Ad some (by kernel_rfl))
 f246:=Tryz.func137.trans (Ad some (by kernel_rfl))
 f279:=Tryz.func152.trans (Ad some (by kernel_rfl))
 f280:=Tryz.func153.trans (Ad some (by kernel_rfl))
 f281:=Tryz.func154.trans (Ad some (by kernel_rfl))
 f282:=Tryz.func155.trans (Ad some (by kernel_rfl))
 f283:=Tryz.func156.trans (Ad some (by kernel_rfl))
 f284:=Tryz.func157.trans (Ad some (by kernel_rfl))
 f285:=Tryz.func158.trans (Ad some (by kernel_rfl))
 f286:=Tryz.func159.trans (Ad some (by kernel_rfl))
 f316:=Tryz.func181.trans (Ad some (by kernel_rfl))
 f317:=Tryz.func183.trans (Ad some (by kernel_rfl))
 f318:=Tryz.func185.trans (Ad some (by kernel_rfl))
 f319:=Tryz.func186.trans (Ad some (by kernel_rfl))
 f320:=Tryz.func187.trans (Ad some (by kernel_rfl))
 f337:=Tryz.func201.trans (Ad some (by kernel_rfl))
 f338:=Tryz.func202.trans (Ad some (by kernel_rfl))
 t0:=underlying0
 a0:=isAgg0
 z0:=sizeOf0
 v0:=zeroValue0
 t2:=underlying2
 a2:=isAgg2
 z2:=sizeOf2
 v2:=zeroValue2
 t3:=underlying3
 a3:=isAgg3
 z3:=sizeOf3
 v3:=zeroValue3
 t4:=underlying4
 a4:=isAgg4
 z4:=sizeOf4
 v4:=zeroValue4
 t5:=underlying5
 a5:=isAgg5
 z5:=sizeOf5
 v5:=zeroValue5
 t9:=underlying9
 a9:=isAgg9
 z9:=sizeOf9
 v9:=zeroValue9
 t20:=underlying20
 a20:=isAgg20
 z20:=sizeOf20
 v20:=zeroValue20
 t37:=underlying69
 a37:=isAgg69
 z37:=sizeOf69
 v37:=zeroValue69
 t46:=underlying85
 a46:=isAgg85
 z46:=sizeOf85
 v46:=zeroValue85
 t51:=underlying106
 a51:=isAgg106
 z51:=sizeOf106
 v51:=zeroValue106
 t53:=underlying130
 a53:=isAgg130
 z53:=sizeOf130
 v53:=zeroValue130
 t75:=underlying94
 a75:=isAgg94
 z75:=sizeOf94
 v75:=zeroValue94
 t127:=underlying133
 a127:=isAgg133
 z127:=sizeOf133
 v127:=zeroValue133
 t143:=underlying253
 a143:=isAgg253
 z143:=sizeOf253
 v143:=zeroValue253
 t145:=underlying255
 a145:=isAgg255
 z145:=sizeOf255
 v145:=zeroValue255
 t167:=underlying194
 a167:=isAgg194
 z167:=sizeOf194
 v167:=zeroValue194
 t168:=underlying197
 a168:=isAgg197
 z168:=sizeOf197
 v168:=zeroValue197
 t171:=underlying200
 a171:=isAgg200
 z171:=sizeOf200
 v171:=zeroValue200
 t173:=underlying203
 a173:=isAgg203
 z173:=sizeOf203
 v173:=zeroValue203
 t210:=underlying233
 a210:=isAgg233
 z210:=sizeOf233
 v210:=zeroValue233
 t212:=underlying236
 a212:=isAgg236
 z212:=sizeOf236
 v212:=zeroValue236
 t213:=underlying237
 a213:=isAgg237
 z213:=sizeOf237
 t232:=underlying109
 a232:=isAgg109
 z232:=sizeOf109
 v232:=zeroValue109
 t233:=underlying259
 a233:=isAgg259
 z233:=sizeOf259
 v233:=zeroValue259
 g15:=by kernel_rfl
 g16:=by kernel_rfl
 g17:=by kernel_rfl
 g18:=by kernel_rfl
 g19:=by kernel_rfl
 t80:=underlying44
 a80:=isAgg44
 z80:=sizeOf44
 v80:=zeroValue44
 i0:=by kernel_rfl
 i2:=by kernel_rfl
 i3:=by kernel_rfl
 i4:=by kernel_rfl
 i5:=by kernel_rfl
 i9:=by kernel_rfl
 i20:=by kernel_rfl
 i37:=by kernel_rfl
 i46:=by kernel_rfl
 i51:=by kernel_rfl
 i53:=by kernel_rfl
 i75:=by kernel_rfl
 i80:=by kernel_rfl
 i127:=by kernel_rfl
 i143:=by kernel_rfl
 i145:=by kernel_rfl
 i167:=by kernel_rfl
 i168:=by kernel_rfl
 i171:=by kernel_rfl
 i173:=by kernel_rfl
 i210:=by kernel_rfl
 i212:=by kernel_rfl
 i232:=by kernel_rfl
 i233:=by kernel_rfl
 m15:=by kernel_rfl
 m16:=by kernel_rfl
 m17:=by kernel_rfl
 m18:=by kernel_rfl
 m19:=by kernel_rfl
 c0:=by kernel_rfl
 c2:=by kernel_rfl
 c3:=by kernel_rfl
 c4:=by kernel_rfl
 c5:=by kernel_rfl
 c9:=by kernel_rfl
 c20:=by kernel_rfl
 c37:=by kernel_rfl
 c46:=by kernel_rfl
 c51:=by kernel_rfl
 c53:=by kernel_rfl
 c75:=by kernel_rfl
 c80:=by kernel_rfl
 c127:=by kernel_rfl
 c143:=by kernel_rfl
 c145:=by kernel_rfl
 c167:=by kernel_rfl
 c168:=by kernel_rfl
 c171:=by kernel_rfl
 c173:=by kernel_rfl
 c210:=by kernel_rfl
 c212:=by kernel_rfl
 c213:=by kernel_rfl
 c232:=by kernel_rfl
 c233:=by kernel_rfl
}
end Go.Proofs.YtncdpanfefnjlaaGreatDoor
namespace Go.Proofs.YtncdpanfefnjlaaGreatDoor
open Go.Proofs.Tryz
open Go Go.ChangeShapes Go.WideShapes Go.ChangeAt Go.RowKit
theorem wG {B:Nat} {a w:World} (h:Below B a w) (n:Nat):Below B a (w.drewN n):=h.trans ⟨rfl,rfl,rfl,Lr _,fun _ _=>rfl⟩
theorem aCw (r:Int) (h:128≤r):∃l:Ub,Utf8.encode r=⟨l.toArray⟩∧2≤l.length∧l.length≤4∧∀b,b ∈ l→128≤b.toNat:=by
 obtain ⟨c,hc⟩:∃c,c=(if Utf8.valid r then r.toNat else Utf8.runeError):=⟨_,rfl⟩
 have hc128:128≤c∧c≤1114111:=by
  rw [hc]
  split
  ·rename_i hv
   unfold Utf8.valid at hv;simp only [Dw,Ak,Av] at hv;omega
  ·decide
 unfold Utf8.encode;simp only [←hc];rw [Af (by omega)]
 have ho:∀n:Nat,n<256→(UInt8.ofNat n).toNat=n:=fun n hn=>by simp [Be];omega
 split
 ·refine ⟨[UInt8.ofNat (192+c / 64),UInt8.ofNat (128+c % 64)],rfl,by simp,by simp,fun b hb=>?_⟩
  simp only [Bz,Ck,or_false] at hb;rcases hb with rfl | rfl <;> rw [ho _ (by omega)] <;> omega
 ·split
  ·refine ⟨[UInt8.ofNat (224+c / 4096),UInt8.ofNat (128+c / 64 % 64),UInt8.ofNat (128+c % 64)],rfl,by simp,by simp,fun b hb=>?_⟩
   simp only [Bz,Ck,or_false] at hb;rcases hb with rfl | rfl | rfl <;> rw [ho _ (by omega)] <;> omega
  ·refine ⟨[UInt8.ofNat (240+c / 262144),UInt8.ofNat (128+c / 4096 % 64),UInt8.ofNat (128+c / 64 % 64),UInt8.ofNat (128+c % 64)],rfl,by simp,by simp,fun b hb=>?_⟩
   simp only [Bz,Ck,or_false] at hb;rcases hb with rfl | rfl | rfl | rfl <;> rw [ho _ (by omega)] <;> omega
theorem oN:∀ {l:Ub} {c:UInt8},(∀b,b ∈ l→b ≠ c)→Lib.indexByte l c=-1
 | [],_,_=>rfl
 | b::l,c,h=>by
  have hb:(b == c)=false:=by simpa using h b (by simp)
  rw [Lib.indexByte,hb,oN (fun b hb=>h b (by simp [hb]))]
  rfl
theorem YC (n b0 b1 b2 b3:Nat) (hn:1≤n) (h0:128≤b0):128≤(Lib.decodeN n b0 b1 b2 b3).1∧((Lib.decodeN n b0 b1 b2 b3).2=1∨((Lib.decodeN n b0 b1 b2 b3).2=2∧1<n∧128≤b1)∨((Lib.decodeN n b0 b1 b2 b3).2=3∧2<n∧128≤b1∧128≤b2)∨((Lib.decodeN n b0 b1 b2 b3).2=4∧3<n∧128≤b1∧128≤b2∧128≤b3)):=by
 unfold Lib.decodeN;rw [Af (by omega)]
 split
 ·split
  ·exact ⟨by assumption,.inr (.inl ⟨rfl,by omega,by omega⟩)⟩
  ·exact ⟨by decide,.inl rfl⟩
 ·split
  ·split
   ·exact ⟨by show 128≤_;omega,.inr (.inr (.inl ⟨rfl,by omega,by omega,by omega⟩))⟩
   ·exact ⟨by decide,.inl rfl⟩
  ·split
   ·split
    ·exact ⟨by show 128≤_;omega,.inr (.inr (.inr ⟨rfl,by omega,by omega,by omega,by omega⟩))⟩
    ·exact ⟨by decide,.inl rfl⟩
   ·exact ⟨by decide,.inl rfl⟩
theorem aDb (s:Bt) (i:Nat) (x:UInt8) (hx:s.data.toList[i]?=some x) (h:128≤x.toNat):128≤(Utf8.decode s i).1∧i+(Utf8.decode s i).2≤s.size∧∀j b,i≤j→j<i+(Utf8.decode s i).2→s.data.toList[j]?=some b→128≤b.toNat:=by
 have hl:s.data.toList.length=s.size:=by rw [Ah];rfl
 have hi:i<s.size:=by rw [←hl];exact (List.getElem?_eq_some_iff.1 hx).1
 have hg:∀k b,s.data.toList[k]?=some b→s.data.toList.getD k 0=b:=fun k b e=>by rw [Ct,e];rfl
 rw [Lib.decode_N s i];obtain ⟨h1,h2⟩:=YC (s.data.toList.length - i) (s.data.toList.getD i 0).toNat (s.data.toList.getD (i+1) 0).toNat (s.data.toList.getD (i+2) 0).toNat (s.data.toList.getD (i+3) 0).toNat (by omega) (by rw [hg _ _ hx];exact h)
 refine ⟨h1,by omega,fun j b hj1 hj2 hb=>?_⟩
 have:=hg j b hb;have hj:j=i∨j=i+1∨j=i+2∨j=i+3:=by omega
 rcases hj with rfl | rfl | rfl | rfl
 ·rw [hx] at hb;cases hb;exact h
 all_goals
  have hb':=Ad UInt8.toNat this;omega
theorem aDc (s p:Bt) (w:World):Calls prog 189 #[.string s,.string p] w fun e w'=>e=.returned (.tuple #[.string ⟨(Lib.trimPrefix s.data.toList p.data.toList).toArray⟩,.bool (Lib.hasPrefix s.data.toList p.data.toList)])∧w=w':=(Any.strings_CutPrefix aBr s p w).mono fun e w' h=>⟨h.1,h.2.symm⟩
theorem aBy (s:Bt) (c:Int) (w:World):Calls prog 216 #[.string s,.int .u8 c] w fun e w'=>e=.returned (Iz (Lib.indexByte s.data.toList c.toNat.toUInt8))∧w=w':=(Any.strings_IndexByte aBq s c w).mono fun e w' h=>⟨h.1,h.2.symm⟩
theorem aBx (s:Bt) (r:Int) (w:World) (h0:0≤r) (h1:r<128):Calls prog 210 #[.string s,.int .i32 r] w fun e w'=>e=.returned (Iz (Lib.indexByte s.data.toList r.toNat.toUInt8))∧w=w':=(Any.strings_IndexRune_ascii aBp s r w h0 h1).mono fun e w' h=>⟨h.1,h.2.symm⟩
theorem UH (r:Int) (w:World) (h0:0≤r):Calls prog 217 #[.int .i32 r] w fun e w'=>e=.returned (.bool (decide (r<55296∨(57343<r∧r≤1114111))))∧w=w':=by
 by_cases h1:r<55296
 ·rw [An (.inl h1)]
  go_enter func217,ntmps217
  go_wp2
  go_ret
  exact ⟨rfl,rfl⟩
 ·by_cases h2:57343<r
  ·by_cases h3:r≤1114111
   ·rw [An (.inr ⟨h2,h3⟩)]
    go_enter func217,ntmps217
    go_wp2
    go_ret
    exact ⟨rfl,rfl⟩
   ·rw [Ap (by omega)]
    go_enter func217,ntmps217
    go_wp2
    go_ret
    exact ⟨rfl,rfl⟩
  ·rw [Ap (by omega)]
   go_enter func217,ntmps217
   go_wp2
   go_ret
   exact ⟨rfl,rfl⟩
theorem OH (n:Int) (w:World):Calls prog 211 #[Iz n] w fun e w'=>e=.returned (.bool (decide (8<n)))∧w=w':=by
 go_enter func211,ntmps211
 go_wp2
 go_ret
 exact ⟨rfl,rfl⟩
theorem XI (s:Bt) (r:Int) (w:World) (h0:128≤r) (hs:s.size≤100) (hA:∀ (j:Nat) b,s.data.toList[j]?=some b→b.toNat<128):Calls prog 210 #[.string s,.int .i32 r] w fun e w'=>e=.returned (Iz (-1))∧Below w.heap.size w w':=by
 have HA:=Hh hA;have h01:(0:Int)≤r:=by omega
 have h02:¬r<128:=by omega
 clear hA
 by_cases h65:r=65533
 ·subst h65
  go_enter func210,ntmps210
  go_upto_region 38 with fail
  go_loopg [5,6] s.size (fun g _ _ wx=>∃i:Nat,i+g=s.size∧wx=w.iter s i)
  case atStart=>exact ⟨0,by omega,rfl⟩
  case round=>
   obtain ⟨i,hig,rfl⟩:=hrel;cases gk with
   | zero=>
    obtain rfl:i=s.size:=by omega
    have hnx:=run_next_end (P:=prog) w s s.size
    go_wp2
    go_ret
    exact ⟨rfl,(Br _ _).alloc (Lr _) _⟩
   | succ g=>
    have hi:i<s.size:=by omega
    obtain ⟨x,hx⟩:∃x:UInt8,s[i]'hi=x:=⟨_,rfl⟩;have hxl:s.data.toList[i]?=some x:=by rw [←hx];exact Lib.data_getElem? s i hi
    have hx128:x.toNat<128:=HA.o i x hxl;have hnx:=fun ty=>run_next_ascii (P:=prog) w s i ty hi (by rw [hx];exact hx128)
    rw [hx] at hnx;have hne:((x.toNat:Int) == 65533)=false:=by simp;omega
    clear hxl hx
    go_wp2
    go_roundg g
    case measure=>omega
    case rel=>exact ⟨i+1,by omega,rfl⟩
 ·have hne:(r == 65533)=false:=by simpa using h65
  obtain ⟨l,hl,hl2,hl4,hlb⟩:=aCw r h0;obtain ⟨m,hm⟩:∃m,l.length=m+1:=⟨l.length - 1,by omega⟩
  have hEs:(Utf8.encode r).size=l.length:=by rw [hl];rfl
  have hm1:((Utf8.encode r).size:Int) - 1=(m:Int):=by omega
  have hmN:m+1=(Utf8.encode r).size:=by omega
  have hm2:(m:Int)<((Utf8.encode r).size:Int):=by omega
  have hm0:(0:Int)≤(m:Int):=by omega
  have hm3:(m:Int)≤3:=by omega
  obtain ⟨y,hy⟩:∃y,l[m]?=some y:=⟨_,Ac (by omega)⟩
  have hy128:=hlb y (Aq hy);have hEy:(Utf8.encode r).data.toList[m]?=some y:=by rw [hl];exact hy
  clear hl hlb hEs hm hy hl2 hl4;have VR:=Hh (fun wx=>UH r wx h01)
  clear h65;generalize decide (r<55296∨(57343<r∧r≤1114111))=b at VR;cases b with
  | false=>
   go_enter func210,ntmps210
   go_wp2_with (go_at_call 217;(with_reducible refine (VR.o _).mono ?_);rintro e w1 ⟨rfl,rfl⟩)
   go_ret
   exact ⟨rfl,Br _ _⟩
  | true=>
   go_enter func210,ntmps210
   go_upto_region 5 with ((with_reducible refine (VR.o _).mono ?_);rintro e w1 ⟨rfl,rfl⟩)
   go_step3
   go_upto_region 5 with fail
   go_loopw [9,10] (fun a b wr=>a=Iz (m:Int)∧b=Iz 0∧wr=w) (fun _ _ _=>0)
   case atStart=>exact ⟨rfl,rfl,rfl⟩
   case round=>
    obtain ⟨rfl,rfl,rfl⟩:=hrel
    by_cases hlt:m<s.size
    ·have hlt':(m:Int)<(s.size:Int):=by omega
     obtain ⟨x,hx⟩:∃x,s.data.toList[m]?=some x:=⟨_,Ac (by rw [Ah];exact hlt)⟩
     have hx128:=HA.o _ _ hx;have hxy:((x.toNat:Int) == (y.toNat:Int))=false:=by simp;omega
     obtain ⟨q,hq⟩:∃q,q=m+1:=⟨_,rfl⟩;have IB:Hid (∀ (c:UInt8) (wx:World),128≤c.toNat→Calls prog 216 #[.string (s.extract q s.size),.int .u8 (c.toNat:Int)] wx fun e w'=>e=.returned (Iz (-1))∧wx=w'):=by
      intro c wx hc;have hno:∀b,b ∈ (s.extract q s.size).data.toList→b ≠ c:=by
       intro b hb e;subst e;rw [ByteArray.data_extract,Array.toList_extract] at hb;have hb2:=List.mem_of_mem_drop (List.mem_of_mem_take (by simpa [List.extract] using hb))
       obtain ⟨j,hj⟩:=List.getElem?_of_mem hb2;have:=HA.o j _ hj;omega
      have h:=aBy (s.extract q s.size) (c.toNat:Int) wx
      rwa [show ((c.toNat:Int)).toNat.toUInt8=c by simp,oN hno] at h
     have HY:Hid (∀h:m<(Utf8.encode r).size,128≤((Utf8.encode r)[m]'h).toNat):=by
      intro h;have e:=Lib.data_getElem? (Utf8.encode r) m h;rw [hEy] at e;cases e;exact hy128
     have hnq:((s[m]'hlt).toNat:Int) ≠ (((Utf8.encode r)[m]'(by omega)).toNat:Int):=by
      have e:=Lib.data_getElem? s m hlt;rw [hx] at e;have e:=Ab e;have:=HY.o (by omega)
      rw [←e];omega
     have hw:IntKind.i64.wrap ((m:Int)+1)=(q:Int):=by rw [Cd _ (by omega)];omega
     have hs1:(q:Int)≤(s.size:Int):=by omega
     have hs0:(0:Int)≤(q:Int):=by omega
     clear hmN hq
     go_wp2
     go_step3
     go_wp2
     go_quiet (fail)
     go_wp2
     go_quiet (first | (go_at_call 216;(with_reducible refine (IB.o _ _ (HY.o _)).mono ?_);exact fun e u h=>⟨h.1,_,h.2.symm⟩))
     go_wp2
     rw [Exit.noGoto_ret]
     go_wp2
     rw [Exit.noGoto_ret]
     go_wp2
     go_ret
     exact ⟨rfl,wG (Br _ _) _⟩
    ·have hlt':¬ (m:Int)<(s.size:Int):=by omega
     go_wp2
     go_ret
     exact ⟨rfl,Br _ _⟩
theorem FW (s chars:Bt) (w:World) (h2:2≤chars.size) (hc8:chars.size≤100) (h8:s.size≤8) (hA:∀ (j:Nat) b,chars.data.toList[j]?=some b→b.toNat<128):Calls prog 204 #[.string s,.string chars] w fun e w'=>e=.returned (Iz (Lib.indexAny s.data.toList chars.data.toList))∧Below w.heap.size w w':=by
 have HA:=Hh hA;clear hA;have hemp:chars.toList.isEmpty=false:=by
  rw [Ci];cases h:chars.data.toList with
  | nil=>have:=Lib.size_eq chars;rw [h,Bs] at this;omega
  | cons _ _=>rfl
 have hn1:((chars.size:Int) == 1)=false:=Db.2 (by omega)
 have h8z:decide ((8:Int)<(s.size:Int))=false:=Ap (by omega)
 go_enter func204,ntmps204
 go_upto_region 18 with ((with_reducible refine (OH _ _).mono ?_);rintro e w' ⟨rfl,rfl⟩;rw [h8z])
 have hb0:Below w.heap.size w (w.iter s 0):=(Br _ _).alloc (Lr _) _;have hit0:(w.iter s 0).heap[w.heap.size]?=some (.stringIter s 0):=World.iter_heap w s 0;generalize w.iter s 0=w0 at hb0 hit0 ⊢
 go_loopw [9,10] (fun _ _ wx=>∃i:Nat,i≤s.size∧wx.heap[w.heap.size]?=some (.stringIter s i)∧Below w.heap.size w wx∧Lib.NoAny s.data.toList chars.data.toList i) (fun _ _ wx=>s.size - wx.iterPos w.heap.size)
 case atStart=>exact ⟨0,Ax _,hit0,hb0,Lib.NoAny.zero _ _⟩
 case round=>
  clear hb0 hit0;obtain ⟨i,his,hit,hbw,hno⟩:=hrel;have HN:=Hh hno;clear hno;have hpos0:=iterPos_of hit
  by_cases hi:i<s.size
  ·obtain ⟨x,hx⟩:∃x:UInt8,s[i]'hi=x:=⟨_,rfl⟩
   have hxl:s.data.toList[i]?=some x:=by rw [←hx];exact Lib.data_getElem? s i hi
   have hnx:∀ty,(Instr.next (.pointer (some ⟨w.heap.size,0,none⟩)) true ty).run prog wr=_:=fun ty=>Lib.run_next_any_at wr w.heap.size s i ty hit hi
   have hit2:=Lib.iterAt_heap wr w.heap.size s i (i+(Utf8.decode s i).2) hit;have hbw2:=Lib.below_iterAt hbw (k:=w.heap.size) (Lr _) s (i+(Utf8.decode s i).2);obtain ⟨W1,hW1⟩:∃W1,W1=wr.iterAt w.heap.size s (i+(Utf8.decode s i).2):=⟨_,rfl⟩;rw [←hW1] at hnx hit2 hbw2;have Hx:=Hh hxl;clear hW1 hit hbw hx
   by_cases hx128:x.toNat<128
   ·have hd:Utf8.decode s i=(x.toNat,1):=by
     rw [Lib.decode_N s i,show s.data.toList.getD i 0=x by rw [Ct,hxl];rfl]
     exact Lib.decodeN_ascii _ _ _ _ _ hx128
    rw [hd] at hnx hit2;clear hd hxl;have hcon:=Lib.contains_iff_indexByte chars.data.toList x;have R:=Hh (fun wx=>aBx chars (x.toNat:Int) wx (by omega) (by omega))
    rw [show ((x.toNat:Int)).toNat.toUInt8=x by simp] at R
    cases hin:chars.data.toList.contains x
    ·rw [hin] at hcon
     have hlt:¬ ((0:Int)≤Lib.indexByte chars.data.toList x):=of_decide_eq_false hcon.symm;clear hcon
     go_wp2_with (go_at_call 210;(with_reducible refine (R.o _).mono ?_);rintro e w' ⟨rfl,rfl⟩)
     go_roundw
     case rel=>exact ⟨i+1,by omega,hit2,hbw2,HN.o.succ Hx.o hin⟩
     case measure=>rw [iterPos_of hit2,hpos0];show s.size - (i+1)<_;omega
    ·rw [hin] at hcon
     have hge:(0:Int)≤Lib.indexByte chars.data.toList x:=Ch hcon.symm;clear hcon
     go_wp2_with (go_at_call 210;(with_reducible refine (R.o _).mono ?_);rintro e w' ⟨rfl,rfl⟩)
     go_ret
     exact ⟨by rw [Lib.indexAny_hit HN.o Hx.o hin];rfl,hbw2⟩
   ·obtain ⟨g1,g2,g3⟩:=aDb s i x hxl (by omega)
    have g4:=Lib.width_pos s i;have R:=Hh (fun wx=>XI chars ((Utf8.decode s i).1:Int) wx (by omega) hc8 HA.o)
    have G3:=Hh g3;have hiW:=Aa hit2;clear hxl g3;generalize Utf8.decode s i=D at hnx hit2 g1 g2 g4 R G3;obtain ⟨D1,D2⟩:=D;simp only at hnx hit2 g1 g2 g4 R G3
    go_wp2_with (go_at_call 210;(with_reducible refine (R.o _).mono ?_);rintro e w2 ⟨rfl,hb2⟩)
    go_roundw
    case rel=>
     refine ⟨i+D2,by omega,(hb2.block _ hiW).trans hit2,hbw2.trans (hb2.mono hbw2.size),?_⟩
     intro j b hj hb
     by_cases hji:j<i
     ·exact HN.o j b hji hb
     ·have hb128:=G3.o j b (by omega) hj hb
      have:¬b ∈ chars.data.toList:=by
       intro hm;obtain ⟨q,hq⟩:=List.getElem?_of_mem hm;have:=HA.o q b hq;omega
      simpa using this
    case measure=>rw [iterPos_of ((hb2.block _ hiW).trans hit2),hpos0];omega
  ·obtain rfl:i=s.size:=by omega
   have hnx:∀ty,(Instr.next (.pointer (some ⟨w.heap.size,0,none⟩)) true ty).run prog wr=_:=fun ty=>Lib.run_next_end_at wr w.heap.size s s.size ty hit hi
   go_wp2
   go_ret
   exact ⟨by rw [Lib.indexAny_none (by rw [←Lib.size_eq];exact HN.o)];rfl,hbw⟩
theorem PY (s chars:Bt) (w:World) (h2:2≤chars.size) (hc8:chars.size≤100) (hs:s.size≤1000000) (hA:∀ (j:Nat) b,chars.data.toList[j]?=some b→b.toNat<128):Calls prog 204 #[.string s,.string chars] w fun e w'=>e=.returned (Iz (Lib.indexAny s.data.toList chars.data.toList))∧Below w.heap.size w w':=by
 by_cases h8:s.size≤8
 ·exact FW s chars w h2 hc8 h8 hA
 ·refine (Any.strings_IndexAny_long aBo (fun w=>by kernel_rfl) (by kernel_rfl) s chars w h2 (by omega) (by omega) (by omega) hA).mono fun e w' h=>⟨h.1,?_⟩
  rw [h.2];exact ((Br _ _).alloc (Lr _) _).alloc (by simp) _
end Go.Proofs.YtncdpanfefnjlaaGreatDoor