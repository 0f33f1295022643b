import Derived.Test.YtncdpanfefnjlaaGreatDoorLst
set_option linter.unusedVariables false
set_option linter.unusedSimpArgs false
namespace Go.Proofs.YtncdpanfefnjlaaGreatDoor
open Go.Proofs.Tryz
open Go
theorem xY.good {k:Int} {s:Bt} {n:ND} (h:xY k s n 0):FoK k n∧foS k n=s:=by
 have b:∀m:Bt,m.data.toList=s.data.toList→m=s:=fun m e=>mG e
 rcases h with ⟨rfl,h⟩ | ⟨rfl,h⟩ | ⟨rfl,h⟩ | ⟨-,-,h⟩
 ·rcases h with ⟨-,c,d,a,f⟩ | ⟨g,-⟩
  ·have F:FoK 1 n:=⟨by decide,by decide,c,d,by show (aR 8 n).length≤_;rw [a,Ah];exact f⟩
   exact ⟨F,b _ (F.err.2.trans a)⟩
  ·cases g
 ·rcases h with ⟨-,c,d,a,f⟩ | ⟨g,-⟩
  ·have F:FoK 2 n:=⟨by decide,by decide,c,d,by show (aU 8 n).length≤_;rw [a,Ah];exact f⟩
   exact ⟨F,b _ (F.err.2.trans a)⟩
  ·cases g
 ·rcases h with ⟨-,c,d,a,f⟩ | ⟨g,-⟩
  ·have F:FoK 3 n:=⟨by decide,by decide,c,d,by show (aW 8 n).length≤_;rw [a,Ah];exact f⟩
   exact ⟨F,b _ (F.err.2.trans a)⟩
  ·cases g
 ·cases h
theorem FoK.read {k:Int} {x n:ND} {o:Int} (h:FoK k x) (p:xY k (foS k x) n o):o=0∧n=x:=by
 have e:=h.err.2;have m:(foS k x).size≤65536:=by rw [h.size];exact h.len
 have w:∀y:ND,aC 8 y=true→aP 8 y=true→eS 8 y=true:=fun y a b=>by unfold eS;rw [a,b];rfl
 have l:=w x h.valid h.nums;have v1:=h.valid;have v2:=h.nums;have v3:=h.k1;have q:=h.k3;generalize foS k x=s at *;rcases p with ⟨rfl,g⟩ | ⟨rfl,g⟩ | ⟨rfl,g⟩ | ⟨g,-⟩
 ·rcases g with ⟨rfl,c,i,f,-⟩ | ⟨-,-,j⟩
  ·exact ⟨rfl,OY (d:=8) (w n c i) l (f.trans e)⟩
  ·exact absurd e.symm (j x v1 v2 m)
 ·rcases g with ⟨rfl,c,i,f,-⟩ | ⟨-,-,j⟩
  ·exact ⟨rfl,PB (d:=8) (w n c i) l (f.trans e)⟩
  ·exact absurd e.symm (j x v1 v2 m)
 ·rcases g with ⟨rfl,c,i,f,-⟩ | ⟨-,-,j⟩
  ·exact ⟨rfl,OW (d:=8) (w n c i) l (f.trans e)⟩
  ·exact absurd e.symm (j x v1 v2 m)
 ·omega
theorem zJ {n:ND} {ls:List Bt} {c:Bt} {d:Nat} (h:cO d n) (b:aP 8 n=true):aP 8 (bL n ls c)=true:=by
 rw [fJ h,cS,An,Ax];refine ⟨show dD 0=true by decide,fun y g=>?_⟩
 obtain ⟨q,i,rfl⟩:=Bp.1 g;obtain ⟨f,a,rfl⟩:=Bp.1 i;unfold eL
 split
 ·rw [cS];rfl
 ·rename_i hnl
  obtain ⟨r,e,-,j⟩:=kT ls (dR n);rw [e] at a;rcases Bg.1 a with a | a
  ·rw [cS,An,Ax] at b
   exact b.2 _ (List.of_mem_zip a).2
  ·exact absurd (j f a).1 hnl
theorem KZ {ls:List Bt} {y:ND} {c:ND→Nat}:∀L:AL,((L.map (eL ls y)).map fun q=>c q.2).sum≤(L.map fun q=>c q.2).sum+L.length * c y
 | []=>by simp
 | q::L=>by
  have a:=KZ (ls:=ls) (y:=y) (c:=c) L;rw [Bq,Bq,Cy,Bq,Cy,Ag,Nat.succ_mul];have:c (eL ls y q).2≤c q.2+c y:=by
   unfold eL
   split
   ·exact Nat.le_add_left _ _
   ·exact Nat.le_add_right _ _
  omega
theorem LH {n:ND} {ls:List Bt} {c:Bt} {q m:Nat} (h:cO (q+1) n) (u:c.size=44) (z:∀l,l ∈ ls→l.size≤m):bK (q+2) (bL n ls c)≤bK (q+2) n+ls.length * (6 * m+40)+(n.items.length+ls.length) * 289:=by
 rw [fJ h];obtain ⟨r,e,j,b⟩:=kT ls (dR n);have d:(dR n).length=n.items.length:=by unfold dR;rw [List.length_zip,h.len,Nat.min_self]
 have g:bK (q+2) (mkA (mN (dR n) ls (tN c)))=24+0+((bU (mN (dR n) ls (tN c))).map fun s=>6 * s.size+8).sum+(((mN (dR n) ls (tN c)).map (·.2)).map fun y=>bK (q+1) y+1).sum:=rfl
 have G:bK (q+2) n=_:=fR (q+1) n;have o:bK (q+1) (tN c)=24+6 * c.size+0+0:=rfl;rw [AV,e,mY,Ef,List.sum_append,tM h] at g;have D:((bU r).map fun s=>6 * s.size+8).sum≤(6 * m+8) * r.length:=by
  have:=uU (f:=fun s:Bt=>6 * s.size+8) (c:=6 * m+8) (l:=bU r) fun s w=>by
   obtain ⟨x,k,rfl⟩:=Bp.1 w;have:=z _ (b x k).1
   show 6 * x.1.size+8≤6 * m+8
   omega
  rwa [show (bU r).length=r.length from Bk ..] at this
 have p:=KZ (ls:=ls) (y:=tN c) (c:=fun y=>bK (q+1) y+1) (dR n++r)
 have t:((dR n++r).map fun a=>bK (q+1) a.2+1).sum=((dR n).map fun a=>bK (q+1) a.2+1).sum+(r.map fun a=>bK (q+1) a.2+1).sum:=by rw [Ef,List.sum_append]
 rw [t,Lg,d] at p;have E:((dR n).map fun a=>bK (q+1) a.2+1).sum=(n.items.map fun y=>bK (q+1) y+1).sum:=by
  rw [show (fun a:Bt × ND=>bK (q+1) a.2+1)=(fun y:ND=>bK (q+1) y+1) ∘ Prod.snd from rfl,←Di]
  unfold dR;rw [List.map_snd_zip (by rw [h.len];exact Lr _)]
 have A:(r.map fun a=>bK (q+1) a.2+1).sum≤25 * r.length:=uU fun x k=>by
  rw [(b x k).2];exact Lr _
 rw [Di] at g;have i:bK (q+2) (mkA (mN (dR n) ls (tN c)))=24+0+((n.names.map fun s=>6 * s.size+8).sum+((bU r).map fun s=>6 * s.size+8).sum)+(((fN (dR n) ls).map (eL ls (tN c))).map fun x=>bK (q+1) x.2+1).sum:=g
 rw [e] at i;have B:(6 * m+8) * r.length≤(6 * m+8) * ls.length:=Nat.mul_le_mul_left _ j;have F:(n.items.length+r.length) * 289≤(n.items.length+ls.length) * 289:=Nat.mul_le_mul_right _ (by omega)
 have C:ls.length * (6 * m+40)=(6 * m+8) * ls.length+32 * ls.length:=by rw [Nat.mul_comm,←Nat.add_mul]
 rw [u] at o;have v:bK (q+1) (tN c)+1=289:=by rw [o]
 simp only [v] at p;omega
theorem aBh {n m:ND} {ls b:List Bt} {p u:Bt} {k:Int} {f:Bt × ND→Bt × ND} (h:cO 7 n) (B:spE n ls p k=0) (R:aP 8 n=true) (i:∀l,l ∈ b↔l ∈ ls) (I:∀q,(f q).1=q.1) (L:∀q,q.1 ∉ ls→f q=q)
 (F:m=mkA ((sV,tN u)::(fW (fN (dR n) ls)).map f)) (o:cO 7 m):spE m b p k=0∧spM m b p k=bL m b (spD n ls p k)∧bI (spM m b p k) p k=bI (spM n ls p k) p k:=by
 have Q:(bU (dR n)).Nodup:=by rw [tM h];exact h.nodup
 rcases sU n ls p k (fun _=>R) with ⟨-,g⟩ | ⟨-,-,-,-,g⟩ | ⟨V,W,O,Z,Y,N,g7⟩
 ·rw [g] at B;cases B
 ·rw [g] at B;cases B
 have s:sV ∉ b:=fun e=>W ((i _).1 e)
 have y:(bU ((sV,tN u)::(fW (fN (dR n) ls)).map f)).Nodup:=by
  have:=o.nodup;rw [F] at this;exact this
 have K:∀a t,bJ (bL m b a) t=bJ (bL n ls a) t:=fun a t=>by
  have U:mN ((sV,tN u)::(fW (fN (dR n) ls)).map f) b (tN a)=(sV,tN u)::(fW (fN (dR n) ls)).map (eL ls (tN a)):=by
   have S:bU ((sV,tN u)::(fW (fN (dR n) ls)).map f)=sV::bU (fW (fN (dR n) ls)):=by
    show sV::bU _=_
    congr 1
    unfold bU;rw [Di];exact Ct fun q _=>I q
   unfold mN;rw [yI fun l v=>by
    rw [S];exact List.mem_cons_of_mem _ ((vF (fun e=>s (e ▸ v))).2 (pM ((i l).1 v))),Bq,Di]
   congr 1
   ·unfold eL;rw [Ae s]
   ·refine Ct fun q _=>?_
    show eL b (tN a) (f q)=eL ls (tN a) q
    by_cases D:q.1 ∈ ls
    ·unfold eL;rw [Am D,I,Am ((i _).2 D)]
    ·rw [L q D];unfold eL;rw [Ae D,Ae fun g=>D ((i _).1 g)]
  rw [F,sW y,U,sM,fJ h,sM,mN,pB];have X:fW ((sV,tN u)::(fW (fN (dR n) ls)).map (eL ls (tN a)))=(fW (fN (dR n) ls)).map (eL ls (tN a)):=by
   rw [←pB];exact QV _ _
  rw [X]
 have G:b ≠ []:=fun e=>by
  obtain ⟨l,v⟩:∃l,l ∈ ls:=by cases ls with | nil=>exact absurd rfl V | cons a t=>exact ⟨a,by simp⟩
  have:=(i l).2 v;rw [e] at this;cases this
 rw [B] at N;have c:gA (bL n ls fD) p k=0:=N.symm;have r:aC 8 (bL n ls fD)=true:=by
  unfold gA at c;rw [O,Am rfl] at c
  split at c
  ·rename_i hx;exact hx.2
  ·cases c
 have z:cO 7 (mkA (dR n)):=by rw [←IA h];exact h
 have C:∀l,l ∈ ls→aZ l=true:=by
  have:=(cK (d:=7) (x:=bL n ls fD) (by rw [fJ h];rfl)).1 r
  rw [fJ h] at this;exact ((GN z (tE lP)).1 this).2
 have H:∀a,fF a→cO 7 (bL m b a):=fun a E=>by
  have A:cO 7 (mkA ((sV,tN u)::(fW (fN (dR n) ls)).map f)):=F ▸ o;rw [F,sW y];refine (GN A (tE E)).2 ⟨?_,fun l v=>C l ((i l).1 v)⟩
  rw [yI fun l v=>by
   show l ∈ sV::bU _
   have:bU ((fW (fN (dR n) ls)).map f)=bU (fW (fN (dR n) ls)):=by
    unfold bU;rw [Di];exact Ct fun q _=>I q
   rw [this];exact List.mem_cons_of_mem _ ((vF (fun e=>s (e ▸ v))).2 (pM ((i l).1 v)))]
  exact (AU.1 A).2.1
 have j:∀a,fF a→aC 8 (bL n ls a)=true→gA (bL m b a) p k=gA (bL n ls a) p k:=fun a E J=>by
  unfold gA;rw [K,Am (show (bL m b a).kind=5∧aC 8 (bL m b a)=true from ⟨(H a E).kind,(cK (H a E).kind).2 (H a E)⟩),Am (show (bL n ls a).kind=5∧aC 8 (bL n ls a)=true from ⟨by rw [fJ h];rfl,J⟩)]
 have w:∀a,bI (bL m b a) p k=bI (bL n ls a) p k:=fun a=>by
  unfold bI vfZ;rw [K,K]
 have T:spD m b p k=spD n ls p k:=by
  unfold spD mK;rw [j _ lP r,w]
 have P:spE m b p k=0:=by
  unfold spE;rw [Ae (show ¬ (b=[]∨sV ∈ b∨aY ⟨p,1,0,k,0⟩=false) from fun g=>g.elim G fun g=>g.elim s fun g=>by rw [O] at g;cases g),Am ⟨o.kind,(cK o.kind).2 o⟩,j _ lP r,c]
 have M:spM m b p k=bL m b (spD n ls p k):=by unfold spM;rw [T]
 exact ⟨P,M,by rw [M,w];rfl⟩
theorem zH {n:ND} {ls:List Bt} {d p:Bt} {k:Int} (h:cO 7 n):bI (bL n ls d) p k=mkA ((sV,tN (fL p k (vfZ (bL n ls d) p k)))::(fW (fN (dR n) ls)).map (eL ls (tN d))):=by
 unfold bI;generalize fL p k _=t;rw [fJ h,sM,mN,pB]
theorem NA {L:AL} (h:(bU L).Nodup) {q:Bt × ND} (b:q ∈ L):eY (mkA L) q.1=some q.2:=by
 obtain ⟨i,a⟩:=List.getElem?_of_mem b;exact aHu rfl h (i:=i) (by show (bU L)[i]?=_;unfold bU;rw [Be,a];rfl) (by show (L.map (·.2))[i]?=_;rw [Be,a];rfl)
theorem PT {n:ND} {ls:List Bt} {d p:Bt} {k:Int} (h:cO 7 n) (c:sV ∉ ls) (a:cO 7 (bI (bL n ls d) p k)):eY (bI (bL n ls d) p k) sV=some (tN (fL p k (vfZ (bL n ls d) p k)))∧∀l,l ∈ ls→eY (bI (bL n ls d) p k) l=some (tN d):=by
 have e:=zH (ls:=ls) (d:=d) (p:=p) (k:=k) h;rw [e] at a ⊢;refine ⟨NA a.nodup (q:=(sV,_)) (List.mem_cons_self ..),fun l b=>?_⟩
 have g:l ∈ bU (fW (fN (dR n) ls)):=(vF (fun e=>c (e ▸ b))).2 (pM b)
 obtain ⟨q,f,rfl⟩:=Bp.1 g;have:=NA a.nodup (q:=eL ls (tN d) q) (List.mem_cons_of_mem _ (List.mem_map_of_mem f));rw [kP] at this;rw [this];unfold eL;rw [Am b]
def gK (y:ND) (l:Bt):Bool:=match eY y l with | some z=>decide (z.kind=3) | none=>false
def vK (y:ND) (t:Bt):Bool:=decide (y.kind=3) && decide (y.text=t) && !y.bool && decide (y.num=0) && decide (y.names=[]) && decide (y.items.length=0)
theorem nQ {y:ND} {t:Bt}:vK y t=true↔y=tN t:=by
 obtain ⟨k,b,z,x,ns,its⟩:=y;unfold vK tN;simp only [ND.kind,ND.bool,ND.num,ND.text,ND.names,ND.items,An,Bool.not_eq_true',ND.mk.injEq]
 constructor
 ·rintro ⟨⟨⟨⟨⟨c,f⟩,e⟩,g⟩,a⟩,d⟩
  exact ⟨Ci c,e,Ci g,Ci f,Ci a,Aw.1 (Ci d)⟩
 ·rintro ⟨c,e,g,f,a,d⟩
  exact ⟨⟨⟨⟨⟨Ap c,Ap f⟩,e⟩,Ap g⟩,Ap a⟩,Ap (by rw [d];rfl)⟩
def mZ (n:ND) (t:Bt):Bool:=match eY n sV with | some y=>vK y t | none=>false
theorem vJ {n:ND} {t:Bt}:mZ n t=true↔eY n sV=some (tN t):=by
 unfold mZ;cases eY n sV with
 | none=>exact ⟨(fun h=>(by cases h)),(fun h=>(by cases h))⟩
 | some y=>exact ⟨(fun h=>(by rw [nQ.1 h])),fun h=>nQ.2 (Ab h)⟩
def ckE (s:Bt) (ls:List Bt) (v:VD) (n:ND) (a:Int):Int:=
 if v.z ≠ (s.size:Int) then 8 else if a ≠ 0∨mZ n (vtS v)=false then 4 else if ls=[]∨ls.all (gK n)=false then 5 else if spE n ls v.p v.f ≠ 0∨spS n ls v.p v.f ≠ s then 9 else 0
def ckX (s:Bt) (ls:List Bt) (v:VD) (n:ND) (a:Int):ND:=if ckE s ls v n a=0 then n else nd0
def ckS (s:Bt) (ls:List Bt) (v:VD) (n:ND) (a:Int):Bt:=if ckE s ls v n a=0 then spD n ls v.p v.f else ⟨#[]⟩
theorem OC (s:Bt) (ls:List Bt) (v:VD) (n:ND) (b:Int):(v.z ≠ (s.size:Int)∧ckE s ls v n b=8)∨(v.z=(s.size:Int)∧(decide (b=0) && mZ n (vtS v))=false∧ckE s ls v n b=4)
 ∨ (v.z=(s.size:Int)∧b=0∧eY n sV=some (tN (vtS v))∧(ls=[]∨ls.all (gK n)=false)∧ckE s ls v n b=5)
 ∨ (v.z=(s.size:Int)∧b=0∧eY n sV=some (tN (vtS v))∧ls ≠ []∧ls.all (gK n)=true∧(spE n ls v.p v.f ≠ 0∨spS n ls v.p v.f ≠ s)∧ckE s ls v n b=9)
 ∨ (v.z=(s.size:Int)∧b=0∧eY n sV=some (tN (vtS v))∧ls ≠ []∧ls.all (gK n)=true∧spE n ls v.p v.f=0∧spS n ls v.p v.f=s∧ckE s ls v n b=0):=by
 unfold ckE
 by_cases d:v.z ≠ (s.size:Int)
 ·exact .inl ⟨d,Am d⟩
 rw [Ae d];have d:v.z=(s.size:Int):=Classical.not_not.1 d;refine .inr ?_
 by_cases a:b ≠ 0∨mZ n (vtS v)=false
 ·exact .inl ⟨d,by rcases a with a | a <;> simp [a],Am a⟩
 rw [Ae a];have a:b=0∧eY n sV=some (tN (vtS v)):=⟨Classical.not_not.1 fun e=>a (.inl e),vJ.1 (by cases e:mZ n (vtS v) with | true=>rfl | false=>exact absurd (.inr e) a)⟩
 refine .inr ?_
 by_cases c:ls=[]∨ls.all (gK n)=false
 ·exact .inl ⟨d,a.1,a.2,c,Am c⟩
 rw [Ae c];have c:ls ≠ []∧ls.all (gK n)=true:=⟨fun e=>c (.inl e),by cases e:ls.all (gK n) with | true=>rfl | false=>exact absurd (.inr e) c⟩
 refine .inr ?_
 by_cases g:spE n ls v.p v.f ≠ 0∨spS n ls v.p v.f ≠ s
 ·exact .inl ⟨d,a.1,a.2,c.1,c.2,g,Am g⟩
 rw [Ae g];exact .inr ⟨d,a.1,a.2,c.1,c.2,Classical.not_not.1 fun e=>g (.inl e),Classical.not_not.1 fun e=>g (.inr e),rfl⟩
theorem aId {s:Bt} {ls:List Bt} {n:ND} {p:Bt} {k:Int} (f:xY k s n 0) (a:spE n ls p k=0) (q:spS n ls p k=s):n=bI (spM n ls p k) p k∧∀l,l ∈ ls→eY n l=some (tN (spD n ls p k)):=by
 obtain ⟨F,-⟩:=f.good;rcases sU n ls p k (fun _=>F.nums) with ⟨-,g⟩ | ⟨-,-,-,-,g⟩ | ⟨w,t,x,o,u,j,i⟩
 ·rw [g] at a;cases a
 ·rw [g] at a;cases a
 rw [a] at j;rw [←j] at i;have h:foS k (bI (spM n ls p k) p k)=s:=by
  unfold spS at q
  rwa [Am a] at q
 have b:aP 8 (spM n ls p k)=true:=zJ o u;have m:FoK k (bI (spM n ls p k) p k):=by
  have y:aP 8 (spM n ls p k)=true:=b;have r:=aEc (n:=spM n ls p k) (p:=p) (k:=k) b i;exact r
 rw [←h] at f;have e:n=bI (spM n ls p k) p k:=(m.read f).2;have c:cO 7 (bI (spM n ls p k) p k):=(cK rfl).1 m.valid;refine ⟨e,fun l v=>?_⟩
 have:=(PT (p:=p) (k:=k) (d:=spD n ls p k) o t c).2 l v;rw [←show spM n ls p k=bL n ls (spD n ls p k) from rfl,←e] at this
 exact this
structure fE (n:ND) (ls:List Bt) (p:Bt) (k:Int):Prop where
 map:cO 7 n
 nums:aP 8 n=true
 v:sV ∉ ls
 ne:ls ≠ []
 val:aY ⟨p,1,0,k,0⟩=true
 e:spE n ls p k=0
 fit:CS (spM n ls p k) p k
 draft:CS (bL n ls fD) p k
 few:(spM n ls p k).items.length≤5
 cost0:bK 8 n≤62900
 labs:∀l,l ∈ ls→l.size≤1
 two:ls.length≤2
theorem EC {n:ND} {ls:List Bt} {c:Bt} (h:cO 7 n) (p:aP 8 n=true) (x:bK 8 n≤62900) (v:n.items.length≤3) (a:ls.length≤2) (o:∀l,l ∈ ls→l.size≤1∧aZ l=true) (k:fF c) :
 eS 8 (bL n ls c)=true∧bK 8 (bL n ls c)≤64800∧(bL n ls c).kind=5∧(bL n ls c).items.length≤5:=by
 have d:cO 7 (mkA (dR n)):=by rw [←IA h];exact h
 obtain ⟨r,e,s,u⟩:=kT ls (dR n);have j:(dR n).length=n.items.length:=by unfold dR;rw [List.length_zip,h.len,Nat.min_self]
 have b:(fN (dR n) ls).length≤5:=by rw [e,Lg];omega
 have g:cO 7 (bL n ls c):=by
  rw [fJ h];exact (GN d (tE k)).2 ⟨by omega,fun l q=>(o l q).2⟩
 have i:(bL n ls c).kind=5:=g.kind;have f:=LH (q:=6) (m:=1) (ls:=ls) h k.1 fun l q=>(o l q).1
 have t:ls.length * (6 * 1+40)≤2 * 46:=Nat.mul_le_mul a (Lr _);have w:(n.items.length+ls.length) * 289≤5 * 289:=Nat.mul_le_mul_right _ (by omega)
 refine ⟨?_,?_,i,?_⟩
 ·unfold eS
  rw [(cK i).2 g,zJ h p];rfl
 ·exact Af f (by show bK 8 n+_+_≤_;omega)
 ·rw [fJ h]
  show (List.map _ _).length≤5
  unfold mN;rw [Bk,Bk];exact b
theorem UH {n:ND} {ls:List Bt} {p:Bt} {k:Int} (h:cO 7 n) (d:aP 8 n=true) (f:bK 8 n≤62900) (j:n.items.length≤3) (a:ls.length≤2) (b:ls ≠ []) (i:sV ∉ ls) (e:∀l,l ∈ ls→l.size≤1∧aZ l=true) (hval:aY ⟨p,1,0,k,0⟩=true):fE n ls p k:=by
 obtain ⟨u,t,s,w⟩:=EC (c:=fD) h d f j a e lP;obtain ⟨m,r,o,v⟩:=EC (c:=spD n ls p k) h d f j a e (lQ _);have D:=aEb (p:=p) (k:=k) u t s (by omega) hval
 have F:=aEb (n:=spM n ls p k) (p:=p) (k:=k) m r o (by show (bL n ls _).items.length≤_;omega) hval
 refine ⟨h,d,i,b,hval,?_,F,D,v,f,fun l q=>(e l q).1,a⟩
 rcases sU n ls p k (fun _=>d) with ⟨g,-⟩ | ⟨-,-,-,g,-⟩ | ⟨-,-,-,-,-,g,-⟩
 ·exact absurd g fun g=>g.elim b fun g=>g.elim i fun g=>by rw [hval] at g;cases g
 ·exact absurd ⟨h.kind,(cK h.kind).2 h⟩ g
 ·rw [g];exact D.e1
section
variable {n:ND} {ls ms:List Bt} {p:Bt} {k:Int}
def spV (n:ND) (ls:List Bt) (p:Bt) (k:Int):VD:=⟨p,1,0,k,vfZ (spM n ls p k) p k⟩
theorem fE.mapX (h:fE n ls p k):cO 7 (bI (spM n ls p k) p k):=(cK rfl).1 h.fit.kit.valid
theorem fE.shape (h:fE n ls p k):bI (spM n ls p k) p k=mkA ((sV,tN (fL p k (vfZ (spM n ls p k) p k)))::(fW (fN (dR n) ls)).map (eL ls (tN (spD n ls p k)))):=zH h.map
theorem fE.find (h:fE n ls p k):∃j,eO (foS k (bI (spM n ls p k) p k)).data.toList 25 0=some (spV n ls p k,j):=by
 obtain ⟨a,r,-,-,g⟩:=h.fit.find (by have:=h.few;omega)
 exact ⟨_,g⟩
theorem fE.again (h:fE n ls p k) (c:∀l,l ∈ ms↔l ∈ ls):spE (bI (spM n ls p k) p k) ms p k=0∧bI (spM (bI (spM n ls p k) p k) ms p k) p k=bI (spM n ls p k) p k:=by
 obtain ⟨a,-,b⟩:=aBh h.map h.e h.nums c (kP ls (tN (spD n ls p k))) (fun q d=>by unfold eL;rw [Ae d]) h.shape h.mapX
 exact ⟨a,b⟩
theorem fE.get (h:fE n ls p k):eY (bI (spM n ls p k) p k) sV=some (tN (vtS (spV n ls p k)))∧∀l,l ∈ ls→eY (bI (spM n ls p k) p k) l=some (tN (spD n ls p k)):=PT h.map h.v h.mapX
theorem fE.check (h:fE n ls p k) (b:∀l,l ∈ ms↔l ∈ ls):ckE (foS k (bI (spM n ls p k) p k)) ms (spV n ls p k) (bI (spM n ls p k) p k) 0=0∧ckX (foS k (bI (spM n ls p k) p k)) ms (spV n ls p k) (bI (spM n ls p k) p k) 0=bI (spM n ls p k) p k:=by
 have d:ms ≠ []:=fun e=>by
  obtain ⟨l,c⟩:∃l,l ∈ ls:=by
   cases hq:ls with
   | nil=>exact absurd hq h.ne
   | cons a t=>exact ⟨a,by simp⟩
  have:=(b l).2 c;rw [e] at this;cases this
 have f:ckE (foS k (bI (spM n ls p k) p k)) ms (spV n ls p k) (bI (spM n ls p k) p k) 0=0:=by
  obtain ⟨j,m⟩:=h.get;obtain ⟨i,o⟩:=h.again b;rcases OC (foS k (bI (spM n ls p k) p k)) ms (spV n ls p k) (bI (spM n ls p k) p k) 0 with ⟨g,-⟩ | ⟨-,g,-⟩ | ⟨-,-,-,g,-⟩ | ⟨-,-,-,-,-,g,-⟩ | ⟨-,-,-,-,-,-,-,g⟩
  ·exact absurd h.fit.size.symm g
  ·rw [vJ.2 j] at g;cases g
  ·rcases g with g | g
   ·exact absurd g d
   ·have:ms.all (gK (bI (spM n ls p k) p k))=true:=Ax.2 fun l c=>by unfold gK;rw [m l ((b l).1 c)];rfl
    rw [this] at g;cases g
  ·rcases g with g | g
   ·exact absurd i g
   ·refine absurd ?_ g
    show spS (bI (spM n ls p k) p k) ms p k=_
    unfold spS;rw [Am i,o]
  ·exact g
 exact ⟨f,by unfold ckX;rw [Am f]⟩
theorem fE.dig (h:fE n ls p k) (b:∀l,l ∈ ms↔l ∈ ls):spD (bI (spM n ls p k) p k) ms p k=spD n ls p k∧ckS (foS k (bI (spM n ls p k) p k)) ms (spV n ls p k) (bI (spM n ls p k) p k) 0=spD n ls p k:=by
 have i:spD (bI (spM n ls p k) p k) ms p k=spD n ls p k:=by
  obtain ⟨q,j⟩:=h.again b;obtain ⟨l,m⟩:∃l,l ∈ ls:=by
   cases hq:ls with
   | nil=>exact absurd hq h.ne
   | cons a t=>exact ⟨a,by simp⟩
  have f:sV ∉ ms:=fun e=>h.v ((b _).1 e)
  have c:cO 7 (bI (spM (bI (spM n ls p k) p k) ms p k) p k):=by rw [j];exact h.mapX
  have g:=(PT (p:=p) (k:=k) (d:=spD (bI (spM n ls p k) p k) ms p k) h.mapX f c).2 l ((b l).2 m);have o:=h.get.2 l m;rw [show bL (bI (spM n ls p k) p k) ms (spD (bI (spM n ls p k) p k) ms p k)=spM (bI (spM n ls p k) p k) ms p k from rfl,j,o] at g
  exact (Ad ND.text (Ab g)).symm
 exact ⟨i,by unfold ckS;rw [Am (h.check b).1];exact i⟩
theorem FM {c:Bt} {m:Nat} (h:cO 7 n) (b:aP 8 n=true) (k:bK 8 n≤400000000) (f:∀l,l ∈ ls→l.size≤m) (g:ls.length * (6 * m+40)≤100000000) (d:ls.length≤900000) (e:c.size=44):CU (bL n ls c):=by
 refine ⟨zJ h b,?_⟩;have a:=LH (q:=6) (m:=m) (ls:=ls) h e f;have i:=h.most;have j:(n.items.length+ls.length) * 289≤900256 * 289:=Nat.mul_le_mul_right _ (by omega)
 exact Af a (by show bK 8 n+_+_≤_;omega)
theorem fE.cost (h:fE n ls p k):bK 8 (bI (spM n ls p k) p k)≤65000:=h.fit.cost
theorem aHv {d:Nat} {x y:ND} {s:Bt} (h:cO d x) (a:eY x s=some y):∃i:Nat,x.names[i]?=some s∧x.items[i]?=some y:=by
 unfold eY at a;rw [Am h.kind] at a;cases hf:x.names.findIdx? (fun t=>decide (t=s)) with
 | none=>rw [hf] at a;cases a
 | some i=>rw [hf] at a;exact ⟨i,(fM hf).1,a⟩
end
theorem fE.forms {n:ND} {l p:Bt} {k:Int} (h:fE n [l] p k) {i:Nat} (t:(bI (spM n [l] p k) p k).names[i]?=some l) :
 ND.mk 5 false 0 ⟨#[]⟩ (bI (spM n [l] p k) p k).names ((bI (spM n [l] p k) p k).items.set i (tN fD))=bI (bL n [l] fD) p k∧spD n [l] p k=pN (foS k (bI (bL n [l] fD) p k))∧(foS k (bI (bL n [l] fD) p k)).size=(foS k (bI (spM n [l] p k) p k)).size
 ∧ foE k (bI (bL n [l] fD) p k)=0∧aC 8 (bI (bL n [l] fD) p k)=true∧aGd (bI (bL n [l] fD) p k):=by
 have o:vfZ (spM n [l] p k) p k=vfZ (bL n [l] fD) p k:=(FL h.map (lQ _) lP h.v h.nums).2 h.fit.e1;have s:=h.mapX;have c:=h.shape;have r:sV ≠ l:=fun e=>h.v (e ▸ At.2 rfl)
 refine ⟨?_,?_,?_,h.draft.kit.err.1,h.draft.kit.valid,aGd.of h.draft.kit.valid h.draft.kit.nums (Af h.draft.cost (by decide))⟩
 ·have m:(ND.mk 5 false 0 ⟨#[]⟩ (bI (spM n [l] p k) p k).names ((bI (spM n [l] p k) p k).items.set i (tN fD)))=AA (bI (spM n [l] p k) p k) l (tN fD):=by
   unfold AA;rw [mD s.nodup t]
   rfl
  rw [m,zH (d:=fD) h.map,←o,c];have f:=s.nodup;rw [c] at f;rw [UK f];unfold AC;have j:l ∈ bU ((sV,tN (fL p k (vfZ (spM n [l] p k) p k)))::(fW (fN (dR n) [l])).map (eL [l] (tN (spD n [l] p k)))):=by
   have:=Ao t;rw [c] at this;exact this
  rw [Am j,Bq,Ae r,Di]
  congr 2
  refine Ct fun q _=>?_
  show (if (eL [l] (tN (spD n [l] p k)) q).1=l then (l,tN fD) else eL [l] (tN (spD n [l] p k)) q)=eL [l] (tN fD) q
  rw [kP];unfold eL
  by_cases e:q.1=l
  ·rw [Am e,Am (At.2 e),e]
  ·rw [Ae e,Ae fun g=>e (At.1 g),Ae fun g=>e (At.1 g)]
 ·unfold spD mK
  rw [Am h.draft.e1]
 ·have a:=h.draft.size
  have b:=h.fit.size;omega
end Go.Proofs.YtncdpanfefnjlaaGreatDoor