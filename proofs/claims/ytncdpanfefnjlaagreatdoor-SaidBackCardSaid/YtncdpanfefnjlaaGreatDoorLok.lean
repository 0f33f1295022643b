import Derived.Test.YtncdpanfefnjlaaGreatDoorLsm
set_option linter.unusedVariables false
set_option linter.unusedSimpArgs false
namespace Go.Proofs.YtncdpanfefnjlaaGreatDoor
open Go.Proofs.Tryz
open Go
theorem wS.good {k:Int} {s:Bt} {n:ND} (h:wS k s n 0):FoK k n∧foS k n=s:=by
 have key:∀m:Bt,m.data.toList=s.data.toList→m=s:=fun m e=>mP e
 rcases h with ⟨rfl,h⟩ | ⟨rfl,h⟩ | ⟨rfl,h⟩ | ⟨-,-,h⟩
 ·rcases h with ⟨-,h1,h2,h3,h4⟩ | ⟨h0,-⟩
  ·have F:FoK 1 n:=⟨by decide,by decide,h1,h2,by show (aT 8 n).length≤_;rw [h3,Ah];exact h4⟩
   exact ⟨F,key _ (F.err.2.trans h3)⟩
  ·cases h0
 ·rcases h with ⟨-,h1,h2,h3,h4⟩ | ⟨h0,-⟩
  ·have F:FoK 2 n:=⟨by decide,by decide,h1,h2,by show (bJ 8 n).length≤_;rw [h3,Ah];exact h4⟩
   exact ⟨F,key _ (F.err.2.trans h3)⟩
  ·cases h0
 ·rcases h with ⟨-,h1,h2,h3,h4⟩ | ⟨h0,-⟩
  ·have F:FoK 3 n:=⟨by decide,by decide,h1,h2,by show (bL 8 n).length≤_;rw [h3,Ah];exact h4⟩
   exact ⟨F,key _ (F.err.2.trans h3)⟩
  ·cases h0
 ·cases h
theorem FoK.read {k:Int} {x n:ND} {er:Int} (h:FoK k x) (hd:wS k (foS k x) n er):er=0∧n=x:=by
 have e:=h.err.2;have hs:(foS k x).size≤65536:=by rw [h.size];exact h.len
 have w:∀y:ND,aB 8 y=true→aO 8 y=true→eF 8 y=true:=fun y a b=>by unfold eF;rw [a,b];rfl
 have hx:=w x h.valid h.nums;have v1:=h.valid;have v2:=h.nums;have v3:=h.k1;have v4:=h.k3;generalize foS k x=s at *;rcases hd with ⟨rfl,g⟩ | ⟨rfl,g⟩ | ⟨rfl,g⟩ | ⟨g,-⟩
 ·rcases g with ⟨rfl,h1,h2,h3,-⟩ | ⟨-,-,h4⟩
  ·exact ⟨rfl,NA (d:=8) (w n h1 h2) hx (h3.trans e)⟩
  ·exact absurd e.symm (h4 x v1 v2 hs)
 ·rcases g with ⟨rfl,h1,h2,h3,-⟩ | ⟨-,-,h4⟩
  ·exact ⟨rfl,NF (d:=8) (w n h1 h2) hx (h3.trans e)⟩
  ·exact absurd e.symm (h4 x v1 v2 hs)
 ·rcases g with ⟨rfl,h1,h2,h3,-⟩ | ⟨-,-,h4⟩
  ·exact ⟨rfl,MY (d:=8) (w n h1 h2) hx (h3.trans e)⟩
  ·exact absurd e.symm (h4 x v1 v2 hs)
 ·omega
theorem yD {n:ND} {ls:List Bt} {c:Bt} {d:Nat} (h:cH d n) (hn:aO 8 n=true):aO 8 (bQ n ls c)=true:=by
 rw [fB h,cJ,Ak,Aw];refine ⟨show dD 0=true by decide,fun y hy=>?_⟩
 obtain ⟨q,hq,rfl⟩:=Bl.1 hy;obtain ⟨q',hq',rfl⟩:=Bl.1 hq;unfold dR
 split
 ·rw [cJ];rfl
 ·rename_i hnl
  obtain ⟨r,e,-,hr⟩:=kF ls (dN n);rw [e] at hq';rcases Bb.1 hq' with hq' | hq'
  ·rw [cJ,Ak,Aw] at hn
   exact hn.2 _ (List.of_mem_zip hq').2
  ·exact absurd (hr q' hq').1 hnl
theorem JG {ls:List Bt} {y:ND} {c:ND→Nat}:∀L:AL,((L.map (dR ls y)).map fun q=>c q.2).sum≤(L.map fun q=>c q.2).sum+L.length * c y
 | []=>by simp
 | q::L=>by
  have ih:=JG (ls:=ls) (y:=y) (c:=c) L;rw [Bj,Bj,Cg,Bj,Cg,Ag,Nat.succ_mul];have:c (dR ls y q).2≤c q.2+c y:=by
   unfold dR
   split
   ·exact Nat.le_add_left _ _
   ·exact Nat.le_add_right _ _
  omega
theorem JP {n:ND} {ls:List Bt} {c:Bt} {q m:Nat} (h:cH (q+1) n) (hc:c.size=44) (hl:∀l,l ∈ ls→l.size≤m):bG (q+2) (bQ n ls c)≤bG (q+2) n+ls.length * (6 * m+40)+(n.items.length+ls.length) * 289:=by
 rw [fB h];obtain ⟨r,e,hr1,hr2⟩:=kF ls (dN n);have hlen:(dN n).length=n.items.length:=by unfold dN;rw [List.length_zip,h.len,Nat.min_self]
 have e1:bG (q+2) (mkA (lY (dN n) ls (tN c)))=24+0+((bK (lY (dN n) ls (tN c))).map fun s=>6 * s.size+8).sum+(((lY (dN n) ls (tN c)).map (·.2)).map fun y=>bG (q+1) y+1).sum:=rfl
 have e2:bG (q+2) n=_:=eC (q+1) n;have e3:bG (q+1) (tN c)=24+6 * c.size+0+0:=rfl;rw [zL,e,mK,Dx,List.sum_append,sN h] at e1;have s1:((bK r).map fun s=>6 * s.size+8).sum≤(6 * m+8) * r.length:=by
  have:=tR (f:=fun s:Bt=>6 * s.size+8) (c:=6 * m+8) (l:=bK r) fun s hs=>by
   obtain ⟨x,hx,rfl⟩:=Bl.1 hs;have:=hl _ (hr2 x hx).1
   show 6 * x.1.size+8≤6 * m+8
   omega
  rwa [show (bK r).length=r.length from Bi ..] at this
 have s2:=JG (ls:=ls) (y:=tN c) (c:=fun y=>bG (q+1) y+1) (dN n++r)
 have s5:((dN n++r).map fun q'=>bG (q+1) q'.2+1).sum=((dN n).map fun q'=>bG (q+1) q'.2+1).sum+(r.map fun q'=>bG (q+1) q'.2+1).sum:=by rw [Dx,List.sum_append]
 rw [s5,Lg,hlen] at s2;have s3:((dN n).map fun q'=>bG (q+1) q'.2+1).sum=(n.items.map fun y=>bG (q+1) y+1).sum:=by
  rw [show (fun q':Bt × ND=>bG (q+1) q'.2+1)=(fun y:ND=>bG (q+1) y+1) ∘ Prod.snd from rfl,←Dc]
  unfold dN;rw [List.map_snd_zip (by rw [h.len];exact Lr _)]
 have s4:(r.map fun q'=>bG (q+1) q'.2+1).sum≤25 * r.length:=tR fun x hx=>by
  rw [(hr2 x hx).2];exact Lr _
 rw [Dc] at e1;have e1':bG (q+2) (mkA (lY (dN n) ls (tN c)))=24+0+((n.names.map fun s=>6 * s.size+8).sum+((bK r).map fun s=>6 * s.size+8).sum)+(((eW (dN n) ls).map (dR ls (tN c))).map fun x=>bG (q+1) x.2+1).sum:=e1
 rw [e] at e1';have k1:(6 * m+8) * r.length≤(6 * m+8) * ls.length:=Nat.mul_le_mul_left _ hr1;have k2:(n.items.length+r.length) * 289≤(n.items.length+ls.length) * 289:=Nat.mul_le_mul_right _ (by omega)
 have k3:ls.length * (6 * m+40)=(6 * m+8) * ls.length+32 * ls.length:=by rw [Nat.mul_comm,←Nat.add_mul]
 rw [hc] at e3;have e4:bG (q+1) (tN c)+1=289:=by rw [e3]
 simp only [e4] at s2;omega
theorem JJ {n m:ND} {ls ms:List Bt} {p u:Bt} {k:Int} {f:Bt × ND→Bt × ND} (h:cH 7 n) (h0:spE n ls p k=0) (hn:aO 8 n=true) (hms:∀l,l ∈ ms↔l ∈ ls) (hf:∀q,(f q).1=q.1) (hf2:∀q,q.1 ∉ ls→f q=q)
 (hm:m=mkA ((sV,tN u)::(fI (eW (dN n) ls)).map f)) (hok:cH 7 m):spE m ms p k=0∧spM m ms p k=bQ m ms (spD n ls p k)∧aW (spM m ms p k) p k=aW (spM n ls p k) p k:=by
 have hnd:(bK (dN n)).Nodup:=by rw [sN h];exact h.nodup
 rcases rV n ls p k (fun _=>hn) with ⟨-,g⟩ | ⟨-,-,-,-,g⟩ | ⟨g1,g2,g3,g4,g5,g6,g7⟩
 ·rw [g] at h0;cases h0
 ·rw [g] at h0;cases h0
 have hv2:sV ∉ ms:=fun e=>g2 ((hms _).1 e)
 have hmk:(bK ((sV,tN u)::(fI (eW (dN n) ls)).map f)).Nodup:=by
  have:=hok.nodup;rw [hm] at this;exact this
 have hw:∀a t,bI (bQ m ms a) t=bI (bQ n ls a) t:=fun a t=>by
  have q1:lY ((sV,tN u)::(fI (eW (dN n) ls)).map f) ms (tN a)=(sV,tN u)::(fI (eW (dN n) ls)).map (dR ls (tN a)):=by
   have hk:bK ((sV,tN u)::(fI (eW (dN n) ls)).map f)=sV::bK (fI (eW (dN n) ls)):=by
    show sV::bK _=_
    congr 1
    unfold bK;rw [Dc];exact Cr fun q _=>hf q
   unfold lY;rw [xB fun l hl=>by
    rw [hk];exact List.mem_cons_of_mem _ ((uC (fun e=>hv2 (e ▸ hl))).2 (oQ ((hms l).1 hl))),Bj,Dc]
   congr 1
   ·unfold dR;rw [Af hv2]
   ·refine Cr fun q _=>?_
    show dR ms (tN a) (f q)=dR ls (tN a) q
    by_cases hq:q.1 ∈ ls
    ·unfold dR;rw [Am hq,hf,Am ((hms _).2 hq)]
    ·rw [hf2 q hq];unfold dR;rw [Af hq,Af fun g=>hq ((hms _).1 g)]
  rw [hm,rW hmk,q1,rN,fB h,rN,lY,oG];have q2:fI ((sV,tN u)::(fI (eW (dN n) ls)).map (dR ls (tN a)))=(fI (eW (dN n) ls)).map (dR ls (tN a)):=by
   rw [←oG];exact OZ _ _
  rw [q2]
 have hne:ms ≠ []:=fun e=>by
  obtain ⟨l,hl⟩:∃l,l ∈ ls:=by cases ls with | nil=>exact absurd rfl g1 | cons a t=>exact ⟨a,by simp⟩
  have:=(hms l).2 hl;rw [e] at this;cases this
 rw [h0] at g6;have fit0:fM (bQ n ls iK) p k=0:=g6.symm;have val0:aB 8 (bQ n ls iK)=true:=by
  unfold fM at fit0;rw [g3,Am rfl] at fit0
  split at fit0
  ·rename_i hx;exact hx.2
  ·cases fit0
 have hmk':cH 7 (mkA (dN n)):=by rw [←FJ h];exact h
 have labs:∀l,l ∈ ls→aV l=true:=by
  have:=(bY (d:=7) (x:=bQ n ls iK) (by rw [fB h];rfl)).1 val0
  rw [fB h] at this;exact ((EP hmk' (sG mO)).1 this).2
 have vm:∀a,eS a→cH 7 (bQ m ms a):=fun a ha=>by
  have hm2:cH 7 (mkA ((sV,tN u)::(fI (eW (dN n) ls)).map f)):=hm ▸ hok;rw [hm,rW hmk];refine (EP hm2 (sG ha)).2 ⟨?_,fun l hl=>labs l ((hms l).1 hl)⟩
  rw [xB fun l hl=>by
   show l ∈ sV::bK _
   have:bK ((fI (eW (dN n) ls)).map f)=bK (fI (eW (dN n) ls)):=by
    unfold bK;rw [Dc];exact Cr fun q _=>hf q
   rw [this];exact List.mem_cons_of_mem _ ((uC (fun e=>hv2 (e ▸ hl))).2 (oQ ((hms l).1 hl)))]
  exact (zK.1 hm2).2.1
 have fit_m:∀a,eS a→aB 8 (bQ n ls a)=true→fM (bQ m ms a) p k=fM (bQ n ls a) p k:=fun a ha hva=>by
  unfold fM;rw [hw,Am (show (bQ m ms a).kind=5∧aB 8 (bQ m ms a)=true from ⟨(vm a ha).kind,(bY (vm a ha).kind).2 (vm a ha)⟩),Am (show (bQ n ls a).kind=5∧aB 8 (bQ n ls a)=true from ⟨by rw [fB h];rfl,hva⟩)]
 have fitn:∀a,aW (bQ m ms a) p k=aW (bQ n ls a) p k:=fun a=>by
  unfold aW vfZ;rw [hw,hw]
 have eD:spD m ms p k=spD n ls p k:=by
  unfold spD mC;rw [fit_m _ mO val0,fitn]
 have eE:spE m ms p k=0:=by
  unfold spE;rw [Af (show ¬ (ms=[]∨sV ∈ ms∨aU ⟨p,1,0,k,0⟩=false) from fun g=>g.elim hne fun g=>g.elim hv2 fun g=>by rw [g3] at g;cases g),Am ⟨hok.kind,(bY hok.kind).2 hok⟩,fit_m _ mO val0,fit0]
 have eM:spM m ms p k=bQ m ms (spD n ls p k):=by unfold spM;rw [eD]
 exact ⟨eE,eM,by rw [eM,fitn];rfl⟩
theorem JI {n:ND} {ls:List Bt} {d p:Bt} {k:Int} (h:cH 7 n):aW (bQ n ls d) p k=mkA ((sV,tN (eV p k (vfZ (bQ n ls d) p k)))::(fI (eW (dN n) ls)).map (dR ls (tN d))):=by
 unfold aW;generalize eV p k _=t;rw [fB h,rN,lY,oG]
theorem LM {L:AL} (h:(bK L).Nodup) {q:Bt × ND} (hq:q ∈ L):eL (mkA L) q.1=some q.2:=by
 obtain ⟨i,hi⟩:=List.getElem?_of_mem hq;exact aGf rfl h (i:=i) (by show (bK L)[i]?=_;unfold bK;rw [Bc,hi];rfl) (by show (L.map (·.2))[i]?=_;rw [Bc,hi];rfl)
theorem NZ {n:ND} {ls:List Bt} {d p:Bt} {k:Int} (h:cH 7 n) (hv:sV ∉ ls) (hok:cH 7 (aW (bQ n ls d) p k)):eL (aW (bQ n ls d) p k) sV=some (tN (eV p k (vfZ (bQ n ls d) p k)))∧∀l,l ∈ ls→eL (aW (bQ n ls d) p k) l=some (tN d):=by
 have e:=JI (ls:=ls) (d:=d) (p:=p) (k:=k) h;rw [e] at hok ⊢;refine ⟨LM hok.nodup (q:=(sV,_)) (List.mem_cons_self ..),fun l hl=>?_⟩
 have hk:l ∈ bK (fI (eW (dN n) ls)):=(uC (fun e=>hv (e ▸ hl))).2 (oQ hl)
 obtain ⟨q,hq,rfl⟩:=Bl.1 hk;have:=LM hok.nodup (q:=dR ls (tN d) q) (List.mem_cons_of_mem _ (List.mem_map_of_mem hq));rw [iV] at this;rw [this];unfold dR;rw [Am hl]
def fW (y:ND) (l:Bt):Bool:=match eL y l with | some z=>decide (z.kind=3) | none=>false
def uH (y:ND) (t:Bt):Bool:=decide (y.kind=3) && decide (y.text=t) && !y.bool && decide (y.num=0) && decide (y.names=[]) && decide (y.items.length=0)
theorem nB {y:ND} {t:Bt}:uH y t=true↔y=tN t:=by
 obtain ⟨k,b,z,x,ns,its⟩:=y;unfold uH tN;simp only [ND.kind,ND.bool,ND.num,ND.text,ND.names,ND.items,Ak,Bool.not_eq_true',ND.mk.injEq]
 constructor
 ·rintro ⟨⟨⟨⟨⟨h1,h2⟩,h3⟩,h4⟩,h5⟩,h6⟩
  exact ⟨Ch h1,h3,Ch h4,Ch h2,Ch h5,Au.1 (Ch h6)⟩
 ·rintro ⟨h1,h3,h4,h2,h5,h6⟩
  exact ⟨⟨⟨⟨⟨An h1,An h2⟩,h3⟩,An h4⟩,An h5⟩,An (by rw [h6];rfl)⟩
def mL (n:ND) (t:Bt):Bool:=match eL n sV with | some y=>uH y t | none=>false
theorem uG {n:ND} {t:Bt}:mL n t=true↔eL n sV=some (tN t):=by
 unfold mL;cases eL n sV with
 | none=>exact ⟨(fun h=>(by cases h)),(fun h=>(by cases h))⟩
 | some y=>exact ⟨(fun h=>(by rw [nB.1 h])),fun h=>nB.2 (Ab h)⟩
def ckE (s:Bt) (ls:List Bt) (v:VD) (n:ND) (e0:Int):Int:=
 if v.z ≠ (s.size:Int) then 8 else if e0 ≠ 0∨mL n (vtS v)=false then 4 else if ls=[]∨ls.all (fW n)=false then 5 else if spE n ls v.p v.f ≠ 0∨spS n ls v.p v.f ≠ s then 9 else 0
def ckX (s:Bt) (ls:List Bt) (v:VD) (n:ND) (e0:Int):ND:=if ckE s ls v n e0=0 then n else nd0
def ckS (s:Bt) (ls:List Bt) (v:VD) (n:ND) (e0:Int):Bt:=if ckE s ls v n e0=0 then spD n ls v.p v.f else ⟨#[]⟩
theorem ME (s:Bt) (ls:List Bt) (v:VD) (n:ND) (e0:Int):(v.z ≠ (s.size:Int)∧ckE s ls v n e0=8)∨(v.z=(s.size:Int)∧(decide (e0=0) && mL n (vtS v))=false∧ckE s ls v n e0=4)
 ∨ (v.z=(s.size:Int)∧e0=0∧eL n sV=some (tN (vtS v))∧(ls=[]∨ls.all (fW n)=false)∧ckE s ls v n e0=5)
 ∨ (v.z=(s.size:Int)∧e0=0∧eL n sV=some (tN (vtS v))∧ls ≠ []∧ls.all (fW n)=true∧(spE n ls v.p v.f ≠ 0∨spS n ls v.p v.f ≠ s)∧ckE s ls v n e0=9)
 ∨ (v.z=(s.size:Int)∧e0=0∧eL n sV=some (tN (vtS v))∧ls ≠ []∧ls.all (fW n)=true∧spE n ls v.p v.f=0∧spS n ls v.p v.f=s∧ckE s ls v n e0=0):=by
 unfold ckE
 by_cases h1:v.z ≠ (s.size:Int)
 ·exact .inl ⟨h1,Am h1⟩
 rw [Af h1];have h1:v.z=(s.size:Int):=Classical.not_not.1 h1;refine .inr ?_
 by_cases h2:e0 ≠ 0∨mL n (vtS v)=false
 ·exact .inl ⟨h1,by rcases h2 with h2 | h2 <;> simp [h2],Am h2⟩
 rw [Af h2];have h2:e0=0∧eL n sV=some (tN (vtS v)):=⟨Classical.not_not.1 fun e=>h2 (.inl e),uG.1 (by cases e:mL n (vtS v) with | true=>rfl | false=>exact absurd (.inr e) h2)⟩
 refine .inr ?_
 by_cases h3:ls=[]∨ls.all (fW n)=false
 ·exact .inl ⟨h1,h2.1,h2.2,h3,Am h3⟩
 rw [Af h3];have h3:ls ≠ []∧ls.all (fW n)=true:=⟨fun e=>h3 (.inl e),by cases e:ls.all (fW n) with | true=>rfl | false=>exact absurd (.inr e) h3⟩
 refine .inr ?_
 by_cases h4:spE n ls v.p v.f ≠ 0∨spS n ls v.p v.f ≠ s
 ·exact .inl ⟨h1,h2.1,h2.2,h3.1,h3.2,h4,Am h4⟩
 rw [Af h4];exact .inr ⟨h1,h2.1,h2.2,h3.1,h3.2,Classical.not_not.1 fun e=>h4 (.inl e),Classical.not_not.1 fun e=>h4 (.inr e),rfl⟩
theorem aGn {s:Bt} {ls:List Bt} {n:ND} {p:Bt} {k:Int} (hd:wS k s n 0) (hE:spE n ls p k=0) (hS:spS n ls p k=s):n=aW (spM n ls p k) p k∧∀l,l ∈ ls→eL n l=some (tN (spD n ls p k)):=by
 obtain ⟨F,-⟩:=hd.good;rcases rV n ls p k (fun _=>F.nums) with ⟨-,g⟩ | ⟨-,-,-,-,g⟩ | ⟨g1,g2,g3,g4,g5,g6,g7⟩
 ·rw [g] at hE;cases hE
 ·rw [g] at hE;cases hE
 rw [hE] at g6;rw [←g6] at g7;have hS':foS k (aW (spM n ls p k) p k)=s:=by
  unfold spS at hS
  rwa [Am hE] at hS
 have hnm:aO 8 (spM n ls p k)=true:=yD g4 g5;have K1:FoK k (aW (spM n ls p k) p k):=by
  have F1:aO 8 (spM n ls p k)=true:=hnm;have hz:=aCm (n:=spM n ls p k) (p:=p) (k:=k) hnm g7;exact hz
 rw [←hS'] at hd;have e:n=aW (spM n ls p k) p k:=(K1.read hd).2;have hok:cH 7 (aW (spM n ls p k) p k):=(bY rfl).1 K1.valid;refine ⟨e,fun l hl=>?_⟩
 have:=(NZ (p:=p) (k:=k) (d:=spD n ls p k) g4 g2 hok).2 l hl;rw [←show spM n ls p k=bQ n ls (spD n ls p k) from rfl,←e] at this
 exact this
structure eR (n:ND) (ls:List Bt) (p:Bt) (k:Int):Prop where
 map:cH 7 n
 nums:aO 8 n=true
 v:sV ∉ ls
 ne:ls ≠ []
 val:aU ⟨p,1,0,k,0⟩=true
 e:spE n ls p k=0
 fit:AS (spM n ls p k) p k
 draft:AS (bQ n ls iK) p k
 few:(spM n ls p k).items.length≤5
 cost0:bG 8 n≤62900
 labs:∀l,l ∈ ls→l.size≤1
 two:ls.length≤2
theorem CG {n:ND} {ls:List Bt} {c:Bt} (h:cH 7 n) (hn:aO 8 n=true) (hc:bG 8 n≤62900) (hi:n.items.length≤3) (hls:ls.length≤2) (hl:∀l,l ∈ ls→l.size≤1∧aV l=true) (hp:eS c) :
 eF 8 (bQ n ls c)=true∧bG 8 (bQ n ls c)≤64800∧(bQ n ls c).kind=5∧(bQ n ls c).items.length≤5:=by
 have hmk:cH 7 (mkA (dN n)):=by rw [←FJ h];exact h
 obtain ⟨r,e,h1,h2⟩:=kF ls (dN n);have hlen:(dN n).length=n.items.length:=by unfold dN;rw [List.length_zip,h.len,Nat.min_self]
 have hel:(eW (dN n) ls).length≤5:=by rw [e,Lg];omega
 have hv:cH 7 (bQ n ls c):=by
  rw [fB h];exact (EP hmk (sG hp)).2 ⟨by omega,fun l q=>(hl l q).2⟩
 have hk:(bQ n ls c).kind=5:=hv.kind;have hco:=JP (q:=6) (m:=1) (ls:=ls) h hp.1 fun l q=>(hl l q).1
 have k1:ls.length * (6 * 1+40)≤2 * 46:=Nat.mul_le_mul hls (Lr _);have k2:(n.items.length+ls.length) * 289≤5 * 289:=Nat.mul_le_mul_right _ (by omega)
 refine ⟨?_,?_,hk,?_⟩
 ·unfold eF
  rw [(bY hk).2 hv,yD h hn];rfl
 ·exact Ae hco (by show bG 8 n+_+_≤_;omega)
 ·rw [fB h]
  show (List.map _ _).length≤5
  unfold lY;rw [Bi,Bi];exact hel
theorem SF {n:ND} {ls:List Bt} {p:Bt} {k:Int} (h:cH 7 n) (hn:aO 8 n=true) (hc:bG 8 n≤62900) (hi:n.items.length≤3) (hls:ls.length≤2) (hne:ls ≠ []) (hv:sV ∉ ls) (hl:∀l,l ∈ ls→l.size≤1∧aV l=true) (hval:aU ⟨p,1,0,k,0⟩=true):eR n ls p k:=by
 obtain ⟨a1,a2,a3,a4⟩:=CG (c:=iK) h hn hc hi hls hl mO;obtain ⟨b1,b2,b3,b4⟩:=CG (c:=spD n ls p k) h hn hc hi hls hl (lC _);have D:=aCl (p:=p) (k:=k) a1 a2 a3 (by omega) hval
 have F:=aCl (n:=spM n ls p k) (p:=p) (k:=k) b1 b2 b3 (by show (bQ n ls _).items.length≤_;omega) hval
 refine ⟨h,hn,hv,hne,hval,?_,F,D,b4,hc,fun l q=>(hl l q).1,hls⟩
 rcases rV n ls p k (fun _=>hn) with ⟨g,-⟩ | ⟨-,-,-,g,-⟩ | ⟨-,-,-,-,-,g,-⟩
 ·exact absurd g fun g=>g.elim hne fun g=>g.elim hv fun g=>by rw [hval] at g;cases g
 ·exact absurd ⟨h.kind,(bY h.kind).2 h⟩ g
 ·rw [g];exact D.e1
section
variable {n:ND} {ls ms:List Bt} {p:Bt} {k:Int}
def spV (n:ND) (ls:List Bt) (p:Bt) (k:Int):VD:=⟨p,1,0,k,vfZ (spM n ls p k) p k⟩
theorem eR.mapX (h:eR n ls p k):cH 7 (aW (spM n ls p k) p k):=(bY rfl).1 h.fit.kit.valid
theorem eR.shape (h:eR n ls p k):aW (spM n ls p k) p k=mkA ((sV,tN (eV p k (vfZ (spM n ls p k) p k)))::(fI (eW (dN n) ls)).map (dR ls (tN (spD n ls p k)))):=JI h.map
theorem eR.find (h:eR n ls p k):∃j,dZ (foS k (aW (spM n ls p k) p k)).data.toList 25 0=some (spV n ls p k,j):=by
 obtain ⟨hd,r,-,-,g⟩:=h.fit.find (by have:=h.few;omega)
 exact ⟨_,g⟩
theorem eR.again (h:eR n ls p k) (hms:∀l,l ∈ ms↔l ∈ ls):spE (aW (spM n ls p k) p k) ms p k=0∧aW (spM (aW (spM n ls p k) p k) ms p k) p k=aW (spM n ls p k) p k:=by
 obtain ⟨a,-,b⟩:=JJ h.map h.e h.nums hms (iV ls (tN (spD n ls p k))) (fun q hq=>by unfold dR;rw [Af hq]) h.shape h.mapX
 exact ⟨a,b⟩
theorem eR.get (h:eR n ls p k):eL (aW (spM n ls p k) p k) sV=some (tN (vtS (spV n ls p k)))∧∀l,l ∈ ls→eL (aW (spM n ls p k) p k) l=some (tN (spD n ls p k)):=NZ h.map h.v h.mapX
theorem eR.check (h:eR n ls p k) (hms:∀l,l ∈ ms↔l ∈ ls):ckE (foS k (aW (spM n ls p k) p k)) ms (spV n ls p k) (aW (spM n ls p k) p k) 0=0∧ckX (foS k (aW (spM n ls p k) p k)) ms (spV n ls p k) (aW (spM n ls p k) p k) 0=aW (spM n ls p k) p k:=by
 have hne:ms ≠ []:=fun e=>by
  obtain ⟨l,hl⟩:∃l,l ∈ ls:=by
   cases hq:ls with
   | nil=>exact absurd hq h.ne
   | cons a t=>exact ⟨a,by simp⟩
  have:=(hms l).2 hl;rw [e] at this;cases this
 have hE:ckE (foS k (aW (spM n ls p k) p k)) ms (spV n ls p k) (aW (spM n ls p k) p k) 0=0:=by
  obtain ⟨g1,g2⟩:=h.get;obtain ⟨a1,a2⟩:=h.again hms;rcases ME (foS k (aW (spM n ls p k) p k)) ms (spV n ls p k) (aW (spM n ls p k) p k) 0 with ⟨g,-⟩ | ⟨-,g,-⟩ | ⟨-,-,-,g,-⟩ | ⟨-,-,-,-,-,g,-⟩ | ⟨-,-,-,-,-,-,-,g⟩
  ·exact absurd h.fit.size.symm g
  ·rw [uG.2 g1] at g;cases g
  ·rcases g with g | g
   ·exact absurd g hne
   ·have:ms.all (fW (aW (spM n ls p k) p k))=true:=Aw.2 fun l hl=>by unfold fW;rw [g2 l ((hms l).1 hl)];rfl
    rw [this] at g;cases g
  ·rcases g with g | g
   ·exact absurd a1 g
   ·refine absurd ?_ g
    show spS (aW (spM n ls p k) p k) ms p k=_
    unfold spS;rw [Am a1,a2]
  ·exact g
 exact ⟨hE,by unfold ckX;rw [Am hE]⟩
theorem eR.dig (h:eR n ls p k) (hms:∀l,l ∈ ms↔l ∈ ls):spD (aW (spM n ls p k) p k) ms p k=spD n ls p k∧ckS (foS k (aW (spM n ls p k) p k)) ms (spV n ls p k) (aW (spM n ls p k) p k) 0=spD n ls p k:=by
 have hd:spD (aW (spM n ls p k) p k) ms p k=spD n ls p k:=by
  obtain ⟨a1,a2⟩:=h.again hms;obtain ⟨l,hl⟩:∃l,l ∈ ls:=by
   cases hq:ls with
   | nil=>exact absurd hq h.ne
   | cons a t=>exact ⟨a,by simp⟩
  have hv2:sV ∉ ms:=fun e=>h.v ((hms _).1 e)
  have hok:cH 7 (aW (spM (aW (spM n ls p k) p k) ms p k) p k):=by rw [a2];exact h.mapX
  have e1:=(NZ (p:=p) (k:=k) (d:=spD (aW (spM n ls p k) p k) ms p k) h.mapX hv2 hok).2 l ((hms l).2 hl);have e2:=h.get.2 l hl;rw [show bQ (aW (spM n ls p k) p k) ms (spD (aW (spM n ls p k) p k) ms p k)=spM (aW (spM n ls p k) p k) ms p k from rfl,a2,e2] at e1
  exact (Ad ND.text (Ab e1)).symm
 exact ⟨hd,by unfold ckS;rw [Am (h.check hms).1];exact hd⟩
theorem DQ {c:Bt} {m:Nat} (h:cH 7 n) (hn:aO 8 n=true) (hc:bG 8 n≤400000000) (hl:∀l,l ∈ ls→l.size≤m) (hb:ls.length * (6 * m+40)≤100000000) (hls:ls.length≤900000) (hp:c.size=44):AT (bQ n ls c):=by
 refine ⟨yD h hn,?_⟩;have hco:=JP (q:=6) (m:=m) (ls:=ls) h hp hl;have h3:=h.most;have k2:(n.items.length+ls.length) * 289≤900256 * 289:=Nat.mul_le_mul_right _ (by omega)
 exact Ae hco (by show bG 8 n+_+_≤_;omega)
theorem eR.cost (h:eR n ls p k):bG 8 (aW (spM n ls p k) p k)≤65000:=h.fit.cost
theorem yB {c:ND→Nat} {y:ND}:∀ (its:List ND) (i:Nat),((its.set i y).map c).sum≤(its.map c).sum+c y
 | [],_=>by simp
 | z::t,0=>by rw [Ay,Bj,Cg,Bj,Cg];omega
 | z::t,i+1=>by
  have:=yB (c:=c) (y:=y) t i;rw [Az,Bj,Cg,Bj,Cg];omega
theorem TD {d:Nat} {x y:ND} {s:Bt} (h:cH d x) (hg:eL x s=some y):∃i:Nat,x.names[i]?=some s∧x.items[i]?=some y:=by
 unfold eL at hg;rw [Am h.kind] at hg;cases hf:x.names.findIdx? (fun t=>decide (t=s)) with
 | none=>rw [hf] at hg;cases hg
 | some i=>rw [hf] at hg;exact ⟨i,(fD hf).1,hg⟩
theorem eR.relab (h:eR n ls p k) {l bf:Bt} {i:Nat} (hl:l ∈ ls) (hi:(aW (spM n ls p k) p k).names[i]?=some l) (hv:aB 8 (.mk 5 false 0 ⟨#[]⟩ (aW (spM n ls p k) p k).names ((aW (spM n ls p k) p k).items.set i (tN bf)))=true) :
 spE (.mk 5 false 0 ⟨#[]⟩ (aW (spM n ls p k) p k).names ((aW (spM n ls p k) p k).items.set i (tN bf))) ls p k=0∧aW (spM (.mk 5 false 0 ⟨#[]⟩ (aW (spM n ls p k) p k).names ((aW (spM n ls p k) p k).items.set i (tN bf))) ls p k) p k=aW (spM n ls p k) p k
 ∧ cH 7 (.mk 5 false 0 ⟨#[]⟩ (aW (spM n ls p k) p k).names ((aW (spM n ls p k) p k).items.set i (tN bf)))∧aO 8 (.mk 5 false 0 ⟨#[]⟩ (aW (spM n ls p k) p k).names ((aW (spM n ls p k) p k).items.set i (tN bf)))=true
 ∧ bG 8 (.mk 5 false 0 ⟨#[]⟩ (aW (spM n ls p k) p k).names ((aW (spM n ls p k) p k).items.set i (tN bf)))≤65025+6 * bf.size:=by
 have hX:=h.mapX;have hsh:=h.shape;have hput:(ND.mk 5 false 0 ⟨#[]⟩ (aW (spM n ls p k) p k).names ((aW (spM n ls p k) p k).items.set i (tN bf)))=yQ (aW (spM n ls p k) p k) l (tN bf):=by
  unfold yQ;rw [lP hX.nodup hi]
  rfl
 have hlv:sV ≠ l:=fun e=>h.v (e ▸ hl)
 have hm:(ND.mk 5 false 0 ⟨#[]⟩ (aW (spM n ls p k) p k).names ((aW (spM n ls p k) p k).items.set i (tN bf)))=mkA ((sV,tN (eV p k (vfZ (spM n ls p k) p k)))::(fI (eW (dN n) ls)).map (fun q=>if q.1=l then (l,tN bf) else dR ls (tN (spD n ls p k)) q)):=by
  rw [hput,hsh];have hnd:=hX.nodup;rw [hsh] at hnd;rw [SI hnd];unfold yS;have hmem:l ∈ bK ((sV,tN (eV p k (vfZ (spM n ls p k) p k)))::(fI (eW (dN n) ls)).map (dR ls (tN (spD n ls p k)))):=by
   have:=Aq hi;rw [hsh] at this;exact this
  rw [Am hmem,Bj,Af hlv,Dc]
  congr 2
  refine Cr fun q _=>?_
  show (if (dR ls (tN (spD n ls p k)) q).1=l then (l,tN bf) else dR ls (tN (spD n ls p k)) q)=_
  rw [iV]
 have hok:cH 7 (.mk 5 false 0 ⟨#[]⟩ (aW (spM n ls p k) p k).names ((aW (spM n ls p k) p k).items.set i (tN bf))):=(bY rfl).1 hv;obtain ⟨a,-,b⟩:=JJ (ms:=ls) h.map h.e h.nums (fun _=>Iff.rfl) (f:=fun q=>if q.1=l then (l,tN bf) else dR ls (tN (spD n ls p k)) q) (fun q=>by
  show (if q.1=l then (l,tN bf) else dR ls (tN (spD n ls p k)) q).1=q.1
  split
  ·rename_i e;exact e.symm
  ·exact iV _ _ _) (fun q hq=>by
  have:q.1 ≠ l:=fun e=>hq (e ▸ hl)
  rw [Af this];unfold dR;rw [Af hq]) hm hok
 refine ⟨a,b,hok,?_,?_⟩
 ·have hn:=h.fit.kit.nums
  rw [cJ,Ak,Aw] at hn ⊢;refine ⟨hn.1,fun y hy=>?_⟩
  rcases List.mem_or_eq_of_mem_set (show y ∈ (aW (spM n ls p k) p k).items.set i (tN bf) from hy) with hy | rfl
  ·exact hn.2 y hy
  ·rw [cJ];rfl
 ·have hc:=h.cost
  rw [show bG 8 (aW (spM n ls p k) p k)=_ from eC 7 _] at hc
  rw [eC];have hs:=yB (c:=fun y=>bG 7 y+1) (y:=tN bf) (aW (spM n ls p k) p k).items i
  have e2:bG 7 (tN bf)=24+6 * bf.size+0+0:=rfl;have e3:(aW (spM n ls p k) p k).text.size=0:=by rw [hX.text];rfl
  rw [e2] at hs
  show 24+6 * 0+((aW (spM n ls p k) p k).names.map fun s=>6 * s.size+8).sum+(((aW (spM n ls p k) p k).items.set i (tN bf)).map fun y=>bG 7 y+1).sum≤_
  omega
end
end Go.Proofs.YtncdpanfefnjlaaGreatDoor