import Derived.Test.YtncdpanfefnjlaaGreatDoorMfe
set_option linter.unusedVariables false
set_option linter.unusedSimpArgs false
set_option maxHeartbeats 3200000
set_option maxRecDepth 100000
namespace Go.Proofs.YtncdpanfefnjlaaGreatDoor
open Go.Proofs.Tryz
open Go
def sV:Bt:=⟨#[118]⟩
def tN (t:Bt):ND:=.mk 3 false 0 t [] []
def cN (ns:List Bt) (its:List ND):List (Bt × ND):=(ns.zip its).filter fun q=>decide (q.1 ≠ sV)
def bJ (n:ND) (t:Bt):ND:=.mk 5 false 0 ⟨#[]⟩ (sV::(cN n.names n.items).map (·.1)) (tN t::(cN n.names n.items).map (·.2))
def fL (p:Bt) (k z:Int):Bt:=vtS ⟨p,1,0,k,z⟩
def vfZ (n:ND) (p:Bt) (k:Int):Int:=((foS k (bJ n (fL p k 0))).size:Nat)
def bI (n:ND) (p:Bt) (k:Int):ND:=bJ n (fL p k (vfZ n p k))
def gA (n:ND) (p:Bt) (k:Int):Int:=if aY ⟨p,1,0,k,0⟩ then (if n.kind=5∧aC 8 n=true then foE k (bJ n (fL p k 0)) else 1) else 2
def kD (n:ND) (p:Bt) (k:Int):ND:=if gA n p k=0 then bI n p k else nd0
def mK (n:ND) (p:Bt) (k:Int):Bt:=if gA n p k=0 then foS k (bI n p k) else ⟨#[]⟩
theorem mM (ns:List Bt) (its:List ND):(cN ns its).length≤its.length:=by
 have a:(cN ns its).length≤(ns.zip its).length:=List.length_filter_le _ _;rw [List.length_zip] at a;omega
theorem pF {ns:List Bt} {its:List ND} {q:Bt × ND} (h:q ∈ cN ns its):q.1 ∈ ns∧q.2 ∈ its∧q.1 ≠ sV:=by
 obtain ⟨a,b⟩:=List.mem_filter.1 h;have:=List.of_mem_zip a;exact ⟨this.1,this.2,Ci b⟩
theorem wD {d c:Type}:∀ (l:List d) (m:List c),((l.zip m).map (·.1)).Sublist l
 | [],_=>by simp
 | a::l,[]=>by simp
 | a::l,b::m=>by simpa using wD l m
theorem RL {ns:List Bt} {its:List ND} (h:ns.Nodup):((cN ns its).map (·.1)).Nodup:=by
 have a:((cN ns its).map (·.1)).Sublist ((ns.zip its).map (·.1)):=(List.filter_sublist).map _;exact a.nodup ((wD ns its).nodup h)
theorem jK (n:ND) (t:Bt):(bJ n t).names.length=(cN n.names n.items).length+1∧(bJ n t).items.length=(cN n.names n.items).length+1:=by
 unfold bJ ND.names ND.items;simp
theorem yW {d:Nat} {n:ND} {t:Bt} (h:cO d n) (j:1≤d) (g:aZ t=true) (i:(cN n.names n.items).length+1≤256):cO d (bJ n t):=by
 refine ⟨rfl,rfl,rfl,rfl,?_,?_,?_,?_,?_⟩
 ·rw [(jK n t).1,(jK n t).2]
 ·rw [(jK n t).2];exact i
 ·intro s c
  rcases Bl.1 c with rfl | c
  ·decide
  ·obtain ⟨q,a,rfl⟩:=Bp.1 c
   exact h.texts _ (pF a).1
 ·refine List.nodup_cons.2 ⟨fun f=>?_,RL h.nodup⟩
  obtain ⟨q,a,e⟩:=Bp.1 f;exact (pF a).2.2 e
 ·intro y b
  rcases Bl.1 b with rfl | b
  ·obtain ⟨m,rfl⟩:∃m,d=m+1:=⟨d - 1,by omega⟩
   rw [cV]
   show (fC (tN t) && true)=true
   rw [Bool.and_true];unfold fC tN;simp [ND.kind,ND.bool,ND.num,ND.text,ND.names,ND.items,g]
  ·obtain ⟨q,a,rfl⟩:=Bp.1 b
   exact h.items _ (pF a).2.1
theorem DR {n:ND} {t:Bt} (h:aC 8 (bJ n t)=true):(cN n.names n.items).length+1≤256:=by
 have:=((cK (d:=7) rfl).1 h).most
 rwa [(jK n t).2] at this
theorem wH {v:VD} (h:aY v=true):(vtS v).data.toList=fS v∧(vtS v).size=17∧∀c,c ∈ fS v→48≤c.toNat∧c.toNat≤122∧c.toNat ≠ 92:=by
 have e:vtS v=⟨(fS v).toArray⟩:=by unfold vtS;rw [Am h]
 refine ⟨by rw [e],by rw [e];show (fS v).toArray.size=17;rw [Eb];exact gG h,fun c a=>?_⟩
 obtain ⟨g,b,i,j,f⟩:=dF h;have d:∀k n c,c ∈ vhL k n→48≤c.toNat∧c.toNat≤102∧c.toNat ≠ 92:=by
  intro k
  induction k with
  | zero=>intro n c a;cases a
  | succ k ih=>
   intro n c a;rw [vhL] at a;rcases Bg.1 a with a | a
   ·exact ih _ _ a
   ·cases At.1 a
    have:∀n:Fin 16,48≤(vhC n.1).toNat∧(vhC n.1).toNat≤102∧(vhC n.1).toNat ≠ 92:=by decide
    exact this ⟨n % 16,Nat.mod_lt _ (by decide)⟩
 unfold fS at a;simp only [Bg] at a;rcases a with a | a | a | a | a | a
 ·unfold aY vU at h
  simp only [An,Ax,As] at h;have:=h.1.1.1.1.2 c a;omega
 ·have:=d _ _ _ a;omega
 ·have:=d _ _ _ a;omega
 ·rcases b with b | b | b <;> rw [b] at a <;> revert c <;> decide
 ·have:=d _ _ _ a;omega
 ·cases At.1 a;decide
theorem uQ {v:VD} (h:aY v=true):aZ (vtS v)=true:=by
 obtain ⟨a,d,b⟩:=wH h;unfold aZ;rw [d,a,Lib.validD_ascii (fS v).length (fS v) (fun c e=>by have:=b c (List.mem_of_mem_take e);omega),List.drop_length]
 rfl
theorem wR {l:Ub} (h:∀c,c ∈ l→48≤c.toNat∧c.toNat≤122∧c.toNat ≠ 92):bE l=34::(l++[34]):=by
 have e:l.flatMap eN=l:=by
  induction l with
  | nil=>rfl
  | cons c t ih=>
   rw [Cl,ih fun c a=>h c (by simp [a])]
   have b:eN c=[c]:=by
    have:∀k:Fin 256,48≤k.1→k.1≤122→k.1 ≠ 92→eN (UInt8.ofNat k.1)=[UInt8.ofNat k.1]:=by decide +kernel
    have a:=h c (by simp)
    have:=this ⟨c.toNat,c.toNat_lt⟩ a.1 a.2.1 a.2.2
    rwa [show UInt8.ofNat c.toNat=c from Dp] at this
   rw [b];rfl
 unfold bE;rw [e]
theorem aBl (a:Ub) (l:List (Ub)):∃r,∀a:Ub,dK (a::l)=a++r:=by
 cases l with
 | nil=>exact ⟨[],fun a=>(By a).symm⟩
 | cons b t=>exact ⟨44::dK (b::t),fun a=>rfl⟩
theorem PI (n:ND):∃r,∀v,aY v=true→aR 8 (bJ n (vtS v))=[123,34,118,34,58,34]++(fS v++r):=by
 obtain ⟨r,f⟩:=aBl [] (List.zipWith (fun s y=>bE s.data.toList++58::aR 7 y) ((cN n.names n.items).map (·.1)) ((cN n.names n.items).map (·.2)))
 refine ⟨34::(r++[125]),fun v b=>?_⟩
 obtain ⟨a,g,c⟩:=wH b;have e:aR 8 (bJ n (vtS v))=123::(dK ((bE sV.data.toList++58::aR 7 (tN (vtS v)))::List.zipWith (fun s y=>bE s.data.toList++58::aR 7 y) ((cN n.names n.items).map (·.1)) ((cN n.names n.items).map (·.2)))++[125]):=rfl
 have d:aR 7 (tN (vtS v))=bE (vtS v).data.toList:=rfl;rw [e,f,d,a,wR c,show bE sV.data.toList=[34,118,34] from rfl]
 simp
theorem PJ (n:ND) (j:(cN n.names n.items).length+1≤256):∃h r,((cN n.names n.items).length+1<16→∀c,c ∈ h→c.toNat<65∨90<c.toNat)∧h.length≤6∧∀v,aY v=true→aU 8 (bJ n (vtS v))=h++(fS v++r):=by
 refine ⟨cR 5 ((cN n.names n.items).length+1)++[97,118,113],(List.zipWith (fun s y=>fT s++aU 7 y) ((cN n.names n.items).map (·.1)) ((cN n.names n.items).map (·.2))).flatten,?_,?_,fun v d=>?_⟩
 ·intro h c a
  have e:cR 5 ((cN n.names n.items).length+1)=[UInt8.ofNat (32 * 5+((cN n.names n.items).length+1))]:=by
   unfold cR eW eC;rw [Am (by omega),Am (by omega)];rfl
  rw [e] at a;rcases Bg.1 a with a | a
  ·cases At.1 a
   rw [Bb,Nat.mod_eq_of_lt (by omega)]
   exact .inr (by omega)
  ·have:∀c,c ∈ ([97,118,113]:Ub)→90<c.toNat:=by decide
   exact .inr (this c a)
 ·rw [Lg,eH]
  have:eC ((cN n.names n.items).length+1)≤2:=by unfold eC;(repeat' split) <;> omega
  show _+1+3≤6
  omega
 ·obtain ⟨b,f,i⟩:=wH d
  have e:aU 8 (bJ n (vtS v))=cR 5 (bJ n (vtS v)).items.length++(((fT sV++aU 7 (tN (vtS v)))::List.zipWith (fun s y=>fT s++aU 7 y) ((cN n.names n.items).map (·.1)) ((cN n.names n.items).map (·.2))).flatten):=rfl
  have g:aU 7 (tN (vtS v))=cR 3 (vtS v).size++(vtS v).data.toList:=rfl;rw [e,(jK n (vtS v)).2,Bv,g,b,f,show fT sV=[97,118] from rfl,show cR 3 17=[113] from rfl]
  simp
theorem PH (n:ND) (j:(cN n.names n.items).length+1≤256):∃h r,((cN n.names n.items).length+1<16→∀c,c ∈ h→c.toNat<65∨90<c.toNat)∧h.length≤6∧∀v,aY v=true→aW 8 (bJ n (vtS v))=h++(fS v++r):=by
 refine ⟨cH (kR ((cN n.names n.items).length+1)) ((cN n.names n.items).length+1)++[161,118,177],(List.zipWith (fun s y=>eR s++aW 7 y) ((cN n.names n.items).map (·.1)) ((cN n.names n.items).map (·.2))).flatten,?_,?_,fun v d=>?_⟩
 ·intro h c a
  have e:cH (kR ((cN n.names n.items).length+1)) ((cN n.names n.items).length+1)=[UInt8.ofNat (128+((cN n.names n.items).length+1))]:=by
   unfold cH kR;rw [Am h];rfl
  rw [e] at a;rcases Bg.1 a with a | a
  ·cases At.1 a
   rw [Bb,Nat.mod_eq_of_lt (by omega)]
   exact .inr (by omega)
  ·have:∀c,c ∈ ([161,118,177]:Ub)→90<c.toNat:=by decide
   exact .inr (this c a)
 ·unfold cH
  rw [Lg,Ag,aQ];have:(kR ((cN n.names n.items).length+1)).2≤2:=by unfold kR;split <;> first | exact Av _ | decide
  show _+1+3≤6
  omega
 ·obtain ⟨b,f,i⟩:=wH d
  have e:aW 8 (bJ n (vtS v))=cH (kR (bJ n (vtS v)).items.length) (bJ n (vtS v)).items.length++(((eR sV++aW 7 (tN (vtS v)))::List.zipWith (fun s y=>eR s++aW 7 y) ((cN n.names n.items).map (·.1)) ((cN n.names n.items).map (·.2))).flatten):=rfl
  have g:aW 7 (tN (vtS v))=cH (gU (vtS v).size) (vtS v).size++(vtS v).data.toList:=rfl;rw [e,(jK n (vtS v)).2,Bv,g,b,f,show eR sV=[161,118] from rfl,show cH (gU 17) 17=[177] from rfl]
  simp
def wrL (k:Int) (x:ND):Ub:=if k=1 then aR 8 x else if k=2 then aU 8 x else aW 8 x
structure FoK (k:Int) (x:ND):Prop where
 k1:1≤k
 k3:k≤3
 valid:aC 8 x=true
 nums:aP 8 x=true
 len:(wrL k x).length≤65536
theorem FoK.err {k:Int} {x:ND} (h:FoK k x):foE k x=0∧(foS k x).data.toList=wrL k x:=by
 obtain ⟨g,f,c,e,d⟩:=h;rcases (by omega:k=1∨k=2∨k=3) with rfl | rfl | rfl
 ·obtain ⟨a,b⟩:=pG c (Nat.not_lt.2 d)
  exact ⟨b,by show (jsS x).data.toList=_;rw [a];rfl⟩
 ·obtain ⟨a,b⟩:=pP c (Nat.not_lt.2 d)
  exact ⟨b,by show (csS x).data.toList=_;rw [a,gR];rfl⟩
 ·obtain ⟨a,b⟩:=mW c (Nat.not_lt.2 d)
  exact ⟨b,by show (mpS x).data.toList=_;rw [a,gR];rfl⟩
theorem FoK.size {k:Int} {x:ND} (h:FoK k x):(foS k x).size=(wrL k x).length:=by rw [←h.err.2,Ah];rfl
theorem SH {k:Int} {x:ND} (a:1≤k) (b:k≤3) (h:aC 8 x=false):foE k x=1:=by
 rcases (by omega:k=1∨k=2∨k=3) with rfl | rfl | rfl
 ·exact (yC h).2
 ·exact (yJ h).2
 ·exact (tJ h).2
theorem IR {k:Int} {x:ND} (b:1≤k) (c:k≤3) (h:aC 8 x=true) (a:65536<(wrL k x).length):foE k x=3:=by
 rcases (by omega:k=1∨k=2∨k=3) with rfl | rfl | rfl
 ·exact (tO h a).2
 ·exact (tV h a).2
 ·exact (qF h a).2
theorem aAo {k:Int} {x:ND} (a:aC 8 x=true) (b:aP 8 x=true):(wrL k x).length≤bK 8 x:=by
 unfold wrL
 split
 ·exact oM 8 x a b
 ·split
  ·exact oN 8 x a
  ·exact oJ 8 x a
theorem KM (k:Int) (n:ND) (a:(cN n.names n.items).length+1≤256):∃h r,((cN n.names n.items).length+1<16→∀c,c ∈ h→c.toNat<65∨90<c.toNat)∧h.length≤6∧∀v,aY v=true→wrL k (bJ n (vtS v))=h++(fS v++r):=by
 unfold wrL
 split
 ·obtain ⟨r,b⟩:=PI n
  exact ⟨[123,34,118,34,58,34],r,fun _=>by decide,by decide,b⟩
 ·split
  ·exact PJ n a
  ·exact PH n a
theorem rL {b:Type} (p:b→Bool) (f:b→Nat):∀l:List b,((l.filter p).map f).sum≤(l.map f).sum
 | []=>Lr _
 | a::t=>by
  have:=rL p f t;rw [List.filter_cons]
  split
  ·rw [Bq,Cy,Bq,Cy];omega
  ·rw [Bq,Cy];omega
def CU (n:ND):Prop:=aP 8 n=true∧bK 8 n≤1000000000
theorem gT {n:ND} {t:Bt} {d:Nat} (h:aP d n=true):aP d (bJ n t)=true:=by
 cases d with
 | zero=>rfl
 | succ d=>
  rw [cS,An,Ax] at h ⊢;refine ⟨show dD 0=true by decide,fun y a=>?_⟩
  rcases Bl.1 a with rfl | a
  ·cases d with
   | zero=>rfl
   | succ d=>rw [cS];rfl
  ·obtain ⟨c,b,rfl⟩:=Bp.1 a
   exact h.2 _ (pF b).2.1
theorem rI {n:ND} {v:VD} {q:Nat} (c:n.names.length=n.items.length) (d:aY v=true):bK (q+2) (bJ n (vtS v))≤bK (q+2) n+141:=by
 obtain ⟨j,l,k⟩:=wH d;have e:bK (q+2) (bJ n (vtS v))=24+0+((6 * 1+8)+(((cN n.names n.items).map (·.1)).map fun s=>6 * s.size+8).sum)+((bK (q+1) (tN (vtS v))+1)+(((cN n.names n.items).map (·.2)).map fun y=>bK (q+1) y+1).sum):=rfl
 have m:bK (q+1) (tN (vtS v))=24+6 * (vtS v).size+0+0:=rfl;have o:bK (q+2) n=_:=fR (q+1) n;have b:=rL (fun q:Bt × ND=>decide (q.1 ≠ sV)) (fun q=>6 * q.1.size+8) (n.names.zip n.items)
 have a:=rL (fun q:Bt × ND=>decide (q.1 ≠ sV)) (fun z=>bK (q+1) z.2+1) (n.names.zip n.items)
 have i:(n.names.zip n.items).map (fun q=>6 * q.1.size+8)=n.names.map fun s=>6 * s.size+8:=by
  rw [show (fun q:Bt × ND=>6 * q.1.size+8)=(fun s:Bt=>6 * s.size+8) ∘ Prod.fst from rfl,←Di,List.map_fst_zip (by rw [c];exact Lr _)]
 have h:(n.names.zip n.items).map (fun z=>bK (q+1) z.2+1)=n.items.map fun y=>bK (q+1) y+1:=by
  rw [show (fun z:Bt × ND=>bK (q+1) z.2+1)=(fun y:ND=>bK (q+1) y+1) ∘ Prod.snd from rfl,←Di,List.map_snd_zip (by rw [c];exact Lr _)]
 rw [i] at b;rw [h] at a;rw [Di,Di] at e;have f:((cN n.names n.items).map ((fun s:Bt=>6 * s.size+8) ∘ fun q=>q.1)).sum≤(n.names.map fun s=>6 * s.size+8).sum:=b
 have g:((cN n.names n.items).map ((fun y:ND=>bK (q+1) y+1) ∘ fun q=>q.2)).sum≤(n.items.map fun y=>bK (q+1) y+1).sum:=a
 omega
theorem ZL {n:ND} {p:Bt} {k:Int} (a:aY ⟨p,1,0,k,0⟩=true) {z:Int} (b:0≤z) (c:z≤65536):aY ⟨p,1,0,k,z⟩=true:=by
 unfold aY at a ⊢;simp only [An] at a ⊢;refine ⟨a.1,?_⟩;unfold inR;rw [Ap b,Ap (by omega:z≤16777215)];rfl
theorem yF (k:Int) (x:ND):(foS k x).size≤65536:=by
 unfold foS
 (repeat' split)
 ·exact aDe x
 ·exact aEt x
 ·exact XY x
 ·exact Av _
theorem vN (n:ND) (p:Bt) (k:Int) (h:aC 8 n=true→n.kind=5→aP 8 n=true) :
 (aY ⟨p,1,0,k,0⟩=false∧gA n p k=2)∨(aY ⟨p,1,0,k,0⟩=true∧¬ (n.kind=5∧aC 8 n=true)∧gA n p k=1)
 ∨ (∃i,(aC 8 (bJ n (fL p k 0))=false∧i=1∨aC 8 (bJ n (fL p k 0))=true∧i=3)∧aY ⟨p,1,0,k,0⟩=true∧n.kind=5∧aC 8 n=true∧aP 8 n=true∧foE k (bJ n (fL p k 0))=i∧gA n p k=i)
 ∨ (aY ⟨p,1,0,k,0⟩=true∧n.kind=5∧aC 8 n=true∧aP 8 n=true∧FoK k (bJ n (fL p k 0))∧aY ⟨p,1,0,k,vfZ n p k⟩=true∧FoK k (bI n p k)∧(foS k (bI n p k)).size=(foS k (bJ n (fL p k 0))).size∧gA n p k=0):=by
 cases hv:aY ⟨p,1,0,k,0⟩ with
 | false=>exact .inl ⟨rfl,by unfold gA;rw [hv];rfl⟩
 | true=>
  refine .inr ?_;have c:1≤k∧k≤3:=by
   have:=(dF hv).2.1;simp only at this;omega
  by_cases b:n.kind=5∧aC 8 n=true
  ·refine .inr ?_
   have j:gA n p k=foE k (bJ n (fL p k 0)):=by unfold gA;rw [hv,Am rfl,Am b]
   have d:=h b.2 b.1;cases hd:aC 8 (bJ n (fL p k 0)) with
   | false=>
    have:=SH c.1 c.2 hd;exact .inl ⟨1,.inl ⟨rfl,rfl⟩,rfl,b.1,b.2,d,this,j.trans this⟩
   | true=>
    by_cases e:65536<(wrL k (bJ n (fL p k 0))).length
    ·have:=IR c.1 c.2 hd e
     exact .inl ⟨3,.inr ⟨rfl,rfl⟩,rfl,b.1,b.2,d,this,j.trans this⟩
    ·have t:=DR hd
     have g:FoK k (bJ n (fL p k 0)):=⟨c.1,c.2,hd,gT d,Nat.not_lt.1 e⟩;have f:aY ⟨p,1,0,k,vfZ n p k⟩=true:=ZL (n:=n) hv (by unfold vfZ;omega) (by have:=yF k (bJ n (fL p k 0));unfold vfZ;omega)
     obtain ⟨a,r,-,-,o⟩:=KM k n t;have l:=Ad List.length (o _ hv);have q:=Ad List.length (o _ f);rw [Lg,Lg,gG hv] at l;rw [Lg,Lg,gG f] at q;have s:(wrL k (bI n p k)).length=(wrL k (bJ n (fL p k 0))).length:=q.trans l.symm;have u:cO 7 n:=(cK b.1).1 b.2;have m:FoK k (bI n p k):=⟨c.1,c.2,(cK rfl).2 (yW u (by decide) (uQ f) t),gT d,by rw [s];exact g.len⟩
     exact .inr ⟨rfl,b.1,b.2,d,g,f,m,by rw [m.size,g.size,s],j.trans g.err.1⟩
  ·exact .inl ⟨rfl,b,by unfold gA;rw [hv,Am rfl,Ae b]⟩
theorem aEc {n:ND} {p:Bt} {k:Int} (h:aP 8 n=true) (a:gA n p k=0):FoK k (bI n p k):=by
 rcases vN n p k (fun _ _=>h) with ⟨-,g⟩ | ⟨-,-,g⟩ | ⟨c,g,-,-,-,-,-,b⟩ | ⟨-,-,-,-,-,-,g,-⟩
 ·rw [g] at a;cases a
 ·rw [g] at a;cases a
 ·rw [a] at b
  rcases g with ⟨-,rfl⟩ | ⟨-,rfl⟩ <;> cases b
 ·exact g
end Go.Proofs.YtncdpanfefnjlaaGreatDoor
namespace Go.Proofs.YtncdpanfefnjlaaGreatDoor
open Go.Proofs.Tryz
open Go Go.ChangeShapes Go.WideShapes Go.ChangeAt Go.RowKit
structure VSt (TN TS:TypeId) (d:Nat) (S:Nat→Prop) (w wx:World) (gb:Nat) (cv:Vl) (vn vi:Value) (ns:List Bt) (A:List NC):Prop where
 res:wx.heap[w.heap.size+2]?=some (.cells Z6 TN (0,0))
 val:wx.heap[w.heap.size]?=some (.cells cv.toArray TN (0,0))
 nod:wx.heap[gb]?=some (.cells #[Iz 5,.bool false,Iz 0,.string ⟨#[]⟩,vn,vi] TN (0,0))
 lo:w.heap.size+3≤gb
 names:jS TS (w.heap.size+3) wx vn ns
 items:wx.ownsRow (w.heap.size+3) TN 6 vi A.length (cM A)
 s1:vn.ownBlock ≠ some gb
 s2:vi.ownBlock ≠ some gb
 s3:∀b,vn.ownBlock=some b→vi.ownBlock ≠ some b
 old:∀y,y ∈ A→aD d S wx y.1 y.2
 bel:Below w.heap.size w wx
section
variable {TN TS:TypeId} {d:Nat} {S:Nat→Prop} {w wx wn:World} {gb:Nat} {cv:Vl} {vn vi:Value} {ns:List Bt} {A:List NC}
theorem VSt.below (h:VSt TN TS d S w wx gb cv vn vi ns A) (a:Below wx.heap.size wx wn) (f:∀b,S b→b<w.heap.size):VSt TN TS d S w wn gb cv vn vi ns A:=by
 have e:∀ {b:Nat} {o:Obj},wx.heap[b]?=some o→wn.heap[b]?=some o:=fun h=>(a.block _ (Aa h)).trans h
 exact ⟨e h.res,e h.val,e h.nod,h.lo,h.names.below a,fQ h.items a,h.s1,h.s2,h.s3,fun y g=>(h.old y g).same fun b c=>a.block b (Ll (f b c) h.bel.size),h.bel.trans (a.mono h.bel.size)⟩
theorem VSt.forms (h:VSt TN TS d S w wx gb cv vn vi ns A):(∃m i,vn=.slice m ns.length i)∧∃j f,vi=.slice j A.length f:=by
 constructor
 ·obtain ⟨a,c,e,_⟩:=h.names.strs;exact ⟨a,c,e⟩
 ·rcases h.items.2 with ⟨rfl,k⟩ | ⟨g,b,l,rfl,_⟩
  ·exact ⟨none,0,by rw [k]⟩
  ·exact ⟨_,b,rfl⟩
theorem VSt.name {a:Value} {s:Bt} (h:VSt TN TS d S w wx gb cv vn vi ns A) (t:∀b,S b→b<w.heap.size) (p:wn.ownsRow (w.heap.size+3) TS 1 a (ns.length+1) (ns.map Value.string++[.string s])) (k:wx.grownBy wn vn.ownBlock) (m:a.ownBlock=vn.ownBlock∨∀b,a.ownBlock=some b→wx.heap.size≤b) (B:s.size≤maxLen - 2) :
 VSt TN TS d S w (wn.setCell ⟨gb,4,none⟩ a) gb cv a vi (ns++[s]) A:=by
 have x:=Aa h.nod;have r:=h.lo;have g:∀i,i ≠ gb→(wn.setCell ⟨gb,4,none⟩ a).heap[i]?=wn.heap[i]?:=fun i q=>heap_setCell_other wn ⟨gb,4,none⟩ i _ q
 have v:(wn.setCell ⟨gb,4,none⟩ a).heap.size=wn.heap.size:=by simp
 have n:=aV wn gb 4 a;have c:∀j,j<w.heap.size+3→j<wx.heap.size→wn.heap[j]?=wx.heap[j]?:=fun j E C=>k.block j C fun e=>by have:=(h.names.1.lt j e.symm).1;omega
 have u:=Aa h.res;have o:a.ownBlock ≠ some gb:=fun e=>by
  rcases m with l | l
  ·rw [l] at e;exact h.s1 e
  ·have:=l gb e;omega
 refine ⟨(g _ (by omega)).trans ((c _ (by omega) u).trans h.res),(g _ (by omega)).trans ((c _ (by omega) (Aa h.val)).trans h.val),lW ((k.block gb x (fun e=>h.s1 e.symm)).trans h.nod) a,r,?_,?_,o,h.s2,?_,?_,?_⟩
 ·exact (h.names.push p B).kept n (.inr fun e=>o e)
 ·refine (h.items.kept k ?_).kept n (.inr fun e=>h.s2 e)
  cases e2:vi.ownBlock with
  | none=>exact .inl rfl
  | some b2=>exact .inr fun z=>h.s3 b2 z.symm e2
 ·intro b f e
  rcases m with l | l
  ·rw [l] at f;exact h.s3 b f e
  ·have:=l b f
   have:=(h.items.lt b e).2;omega
 ·intro y D
  refine (h.old y D).same fun b f=>(g b (by have:=t b f;omega)).trans (c b (by have:=t b f;omega) (Ll (t b f) h.bel.size))
 ·have f:=h.bel
  exact ⟨k.os.trans f.os,k.tape.trans f.tape,k.output.trans f.output,by rw [v];exact Af f.size k.size,fun i q=>(g i (by omega)).trans ((c i (by omega) (Ll q f.size)).trans (f.block i q))⟩
theorem VSt.item {a:Value} {m:Vl} {y:ND} (h:VSt TN TS d S w wx gb cv vn vi ns A) (B:∀b,S b→b<w.heap.size) (t:wn.ownsRow (w.heap.size+3) TN 6 a (A.length+1) (cM A++m)) (k:wx.grownBy wn vi.ownBlock) (o:a.ownBlock=vi.ownBlock∨∀b,a.ownBlock=some b→wx.heap.size≤b) (H:aD d S wx m y) :
 VSt TN TS d S w (wn.setCell ⟨gb,5,none⟩ a) gb cv vn a ns (A++[(m,y)]):=by
 have E:=Aa h.nod;have v:=h.lo;have g:∀i,i ≠ gb→(wn.setCell ⟨gb,5,none⟩ a).heap[i]?=wn.heap[i]?:=fun i u=>heap_setCell_other wn ⟨gb,5,none⟩ i _ u
 have D:(wn.setCell ⟨gb,5,none⟩ a).heap.size=wn.heap.size:=by simp
 have p:=aV wn gb 5 a;have c:∀j,j<w.heap.size+3→j<wx.heap.size→wn.heap[j]?=wx.heap[j]?:=fun j I G=>k.block j G fun e=>by have:=(h.items.lt j e.symm).1;omega
 have C:=Aa h.res;have s:a.ownBlock ≠ some gb:=fun e=>by
  rcases o with l | l
  ·rw [l] at e;exact h.s2 e
  ·have:=l gb e;omega
 have n:∀ {m:Vl} {x:ND},aD d S wx m x→aD d S (wn.setCell ⟨gb,5,none⟩ a) m x:=fun q=>q.same fun b f=>(g b (by have:=B b f;omega)).trans (c b (by have:=B b f;omega) (Ll (B b f) h.bel.size))
 refine ⟨(g _ (by omega)).trans ((c _ (by omega) C).trans h.res),(g _ (by omega)).trans ((c _ (by omega) (Aa h.val)).trans h.val),kO ((k.block gb E (fun e=>h.s2 e.symm)).trans h.nod) a,v,?_,?_,h.s1,s,?_,?_,?_⟩
 ·refine (h.names.kept k ?_).kept p (.inr fun e=>h.s1 e)
  cases e2:vn.ownBlock with
  | none=>exact .inl rfl
  | some b2=>exact .inr fun F=>h.s3 b2 e2 F.symm
 ·refine World.ownsRow.kept ?_ p (.inr fun e=>s e)
  rw [Lg,kJ]
  simpa [cM] using t
 ·intro b f e
  rcases o with l | l
  ·rw [l] at e;exact h.s3 b f e
  ·have:=l b e
   have:=(h.names.1.lt b f).2;omega
 ·intro z r
  rcases Bg.1 r with r | r
  ·exact n (h.old z r)
  ·cases At.1 r;exact n H
 ·have f:=h.bel
  exact ⟨k.os.trans f.os,k.tape.trans f.tape,k.output.trans f.output,by rw [D];exact Af f.size k.size,fun i u=>(g i (by omega)).trans ((c i (by omega) (Ll u f.size)).trans (f.block i u))⟩
end
theorem UI:sV.toList=[118]:=by decide +kernel
theorem YQ {ns:List Bt} {its:List ND} {j:Nat} {s:Bt} {y:ND} (a:ns[j]?=some s) (b:its[j]?=some y):cN (ns.take (j+1)) (its.take (j+1))=cN (ns.take j) (its.take j)++(if s=sV then [] else [(s,y)]):=by
 have f:=dT a;have e:=dT b;have d:ns.take (j+1)=ns.take j++[s]:=by rw [Bf,a];rfl
 have c:its.take (j+1)=its.take j++[y]:=by rw [Bf,b];rfl
 rw [d,c];unfold cN;rw [List.zip_append (by rw [Bc,Bc];omega),List.filter_append]
 congr 1
 by_cases h:s=sV
 ·rw [Am h];simp [h]
 ·rw [Ae h];simp [h]
def JF (d:Nat) (w:World) (y:ND) (e:Ending) (w':World):Prop:=∃a c:Value,e=.returned (.agg #[Iz 5,.bool false,Iz 0,.string ⟨#[]⟩,a,c])∧aD d (fun b=>b<w'.heap.size) w' [Iz 5,.bool false,Iz 0,.string ⟨#[]⟩,a,c] y∧Below w.heap.size w w'
theorem VX {d:Nat} {S:Nat→Prop} (cs:Vl) (x:ND) (v:VD) (w:World) (h:aD (d+1) S w cs x) (hS:∀b,S b→b<w.heap.size) (xq:jZ (d+1) x) (xm:x.names.length=x.items.length) (hd:1≤d) (hv:CO v) (hz:(vtS v).size≤100) (hT:DB w) :
 Calls prog 46 #[.agg cs.toArray,.agg (vcs v)] w (JF (d+1) w (bJ x (vtS v))):=by
 obtain ⟨a1,l1,c1,a2,l2,c2,rfl⟩:=h.slices;obtain ⟨vn,vi,e,ht,C,ys⟩:=h;simp only [Bu,Dd,Dj] at e;obtain ⟨rfl,rfl⟩:=e;obtain ⟨w1,G⟩:∃W,W=((w.alloc (.cells (Na x a1 l1 c1 a2 l2 c2) 28)).alloc (.cells #[.string v.p,Iz v.a,Iz v.b,Iz v.f,Iz v.z] 58)).alloc (.cells Z6 28):=⟨_,rfl⟩;have z1:(w.alloc (.cells (Na x a1 l1 c1 a2 l2 c2) 28)).heap.size=w.heap.size+1:=by simp
 have z2:((w.alloc (.cells (Na x a1 l1 c1 a2 l2 c2) 28)).alloc (.cells #[.string v.p,Iz v.a,Iz v.b,Iz v.f,Iz v.z] 58)).heap.size=w.heap.size+2:=by simp
 have R:Below w.heap.size w w1:=by rw [G];exact (((Br _ _).alloc (Lr _) _).alloc (by simp) _).alloc (by simp;omega) _
 have k0:w1.heap[w.heap.size]?=some (.cells (Na x a1 l1 c1 a2 l2 c2) 28 (0,0)):=by rw [G];exact (Bj _ _ _ (by omega)).trans ((Bj _ _ _ (by omega)).trans (Hn _ _))
 have k1:w1.heap[w.heap.size+1]?=some (.cells #[.string v.p,Iz v.a,Iz v.b,Iz v.f,Iz v.z] 58 (0,0)):=by
  have:=Hn (w.alloc (.cells (Na x a1 l1 c1 a2 l2 c2) 28)) (.cells #[.string v.p,Iz v.a,Iz v.b,Iz v.f,Iz v.z] 58);rw [z1] at this;rw [G];exact (Bj _ _ _ (by omega)).trans this
 have k2:w1.heap[w.heap.size+2]?=some (.cells Z6 28 (0,0)):=by
  have:=Hn ((w.alloc (.cells (Na x a1 l1 c1 a2 l2 c2) 28)).alloc (.cells #[.string v.p,Iz v.a,Iz v.b,Iz v.f,Iz v.z] 58)) (.cells Z6 28);rw [z2] at this;rw [G];exact this
 have z3:w1.heap.size=w.heap.size+3:=by rw [G];simp
 have TX:=Hh (oQ v w1 hv (hT.below R));have NT:=Hh (fun wx:World=>gN (vtS v) wx)
 have H:=Hh hS;have x5:=Hh C;have yn:=Hh ys;have HL:=Hh xq;have K0:=Hh k0;have K2:=Hh k2;have B1:=Hh R;have Z3:=Hh z3;have c5:=dQ k1;have xc:=Hh xm;clear xq hS C ys k0 k1 k2 R z1 z2 z3 ht hv hT xm;unfold vcs at TX ⊢
 go_enter func46,ntmps46
 go_upto_region 1 with fail
 rw [←G];clear G
 go_upto_region 2 with ((with_reducible refine (TX.o).mono ?_);rintro e O ⟨rfl,xg⟩)
 clear c5 TX
 go_upto_region 3 with ((with_reducible refine (NT.o _).mono ?_);rintro e t ⟨rfl,xj⟩)
 have xb:=xg.size;have zt:=Z3.o;have bs:=(Br O.heap.size O).alloc (o:=.cells #[.string ⟨#[118]⟩] 9) (Lr _);have on:=Ed (base:=w.heap.size+3) (e:=9) (size:=1) O #[.string ⟨#[118]⟩] 1 (by omega) (by decide) rfl
 have b3:=bs.trans (xj.mono bs.size);have bi:=(Br t.heap.size t).alloc (o:=.cells #[Iz 3,.bool false,Iz 0,.string (vtS v),Sn,Sn] 28) (Lr _);have oi:=Ed (base:=w.heap.size+3) (e:=28) (size:=6) t #[Iz 3,.bool false,Iz 0,.string (vtS v),Sn,Sn] 1 (by have:=b3.size;omega) (by decide) rfl
 have bn:=(Br (t.alloc (.cells #[Iz 3,.bool false,Iz 0,.string (vtS v),Sn,Sn] 28)).heap.size (t.alloc (.cells #[Iz 3,.bool false,Iz 0,.string (vtS v),Sn,Sn] 28))).alloc (o:=.cells #[Iz 5,.bool false,Iz 0,.string ⟨#[]⟩,.slice (some ⟨O.heap.size,0,none⟩) 1 1,.slice (some ⟨t.heap.size,0,none⟩) 1 1] 28) (Lr _);have kn:=Hn (t.alloc (.cells #[Iz 3,.bool false,Iz 0,.string (vtS v),Sn,Sn] 28)) (.cells #[Iz 5,.bool false,Iz 0,.string ⟨#[]⟩,.slice (some ⟨O.heap.size,0,none⟩) 1 1,.slice (some ⟨t.heap.size,0,none⟩) 1 1] 28);have zi:(t.alloc (.cells #[Iz 3,.bool false,Iz 0,.string (vtS v),Sn,Sn] 28)).heap.size=t.heap.size+1:=by simp
 have sb:=b3.size;have za:=bs.size;have yv:(O.alloc (.cells #[.string ⟨#[118]⟩] 9)).heap.size=O.heap.size+1:=by simp
 have s3:=xj.size;have bW:=bi.trans (bn.mono bi.size);have xe:=b3.trans (bW.mono b3.size);have xt:=fQ (fQ on xj) bW;have xw:=fQ oi bn;clear on oi;obtain ⟨W,hW⟩:∃W,W=(t.alloc (.cells #[Iz 3,.bool false,Iz 0,.string (vtS v),Sn,Sn] 28)).alloc (.cells #[Iz 5,.bool false,Iz 0,.string ⟨#[]⟩,.slice (some ⟨O.heap.size,0,none⟩) 1 1,.slice (some ⟨t.heap.size,0,none⟩) 1 1] 28):=⟨_,rfl⟩;rw [←hW] at bW xe xt xw kn ⊢;have xs:∀ {b:Nat} {o:Obj},w1.heap[b]?=some o→W.heap[b]?=some o:=fun {b o} hh=>(xe.block _ (Ll (Aa hh) xb)).trans ((xg.block _ (Aa hh)).trans hh)
 have V0:VSt 28 9 d S w W (t.heap.size+1) (Nc x a1 l1 c1 a2 l2 c2) (.slice (some ⟨O.heap.size,0,none⟩) 1 1) (.slice (some ⟨t.heap.size,0,none⟩) 1 1) [sV] [([Iz 3,.bool false,Iz 0,.string (vtS v),Sn,Sn],tN (vtS v))]:=by
  refine ⟨xs K2.o,xs K0.o,by rw [zi] at kn;exact kn,by omega,⟨xt,fun s hs=>?_⟩,by simpa [cM] using xw,?_,?_,?_,fun y hy=>?_,B1.o.trans ((xg.trans (xe.mono xb)).mono B1.o.size)⟩
  ·cases At.1 hs;decide
  ·intro e;have:=Ab (show some O.heap.size=some (t.heap.size+1) from e);omega
  ·intro e;have:=Ab (show some t.heap.size=some (t.heap.size+1) from e);omega
  ·intro b e e';have:=Ab (show some O.heap.size=some b from e);have:=Ab (show some t.heap.size=some b from e');omega
  ·cases At.1 hy
   exact (cJ S W 3 false 0 (vtS v) (by unfold maxLen;omega)).deeper hd
 clear xt xw kn bW xe bi bn b3 bs xs hW zi sb za yv s3 xb xg xj;generalize t.heap.size+1=gb at V0 ⊢;generalize Value.slice (some ⟨O.heap.size,0,none⟩) 1 1=zq at V0 ⊢;generalize Value.slice (some ⟨t.heap.size,0,none⟩) 1 1=zy at V0 ⊢;have cW:=aA V0.val;have VV:=Hh V0;have y9:l1=x.names.length:=by obtain ⟨_,_,e,-⟩:=x5.o;cases e;rfl
 have y4:l2=x.items.length:=by obtain ⟨_,_,e,-⟩:=yn.o;cases e;rfl
 subst y9 y4;have zz:=HL.o.1;have z5:=HL.o.2.1;clear V0
 go_upto_region 4 with fail
 clear cW
 go_loopw [23] (fun i wr=>∃j:Nat,i=Iz j∧j≤x.names.length∧∃ (vn vi:Value) (ns:List Bt) (A:List NC),VSt 28 9 d S w wr gb [Iz x.kind,.bool x.bool,Iz x.num,.string x.text,.slice a1 x.names.length c1,.slice a2 x.items.length c2] vn vi ns A∧ns=sV::(cN (x.names.take j) (x.items.take j)).map (·.1)∧aG A=tN (vtS v)::(cN (x.names.take j) (x.items.take j)).map (·.2)) (fun i _=>x.names.length - (intOf i).toNat)
 case atStart=>exact ⟨0,rfl,Av _,_,_,_,_,VV.o,rfl,rfl⟩
 case round=>
  clear VV;obtain ⟨j,rfl,hj,vn,vi,ns,A,B,C,hA⟩:=hrel;have zd:=mM (x.names.take j) (x.items.take j);have yh:(x.items.take j).length≤x.items.length:=by rw [Bc];exact Nat.min_le_right _ _
  have zv:ns.length≤1000001:=by rw [C,Ag,Bk];omega
  have zn:A.length≤1000001:=by
   have:=Ad List.length hA;rw [aG,Bk,Ag,Bk] at this;omega
  clear zd yh
  by_cases x9:j<x.names.length
  ·have yt:(j:Int)<(x.names.length:Int):=by omega
   have z4:(0:Int)≤(j:Int):=by omega
   have zh:j<x.items.length:=by have:=xc.o;omega
   have zl:(j:Int)<(x.items.length:Int):=by have:=xc.o;omega
   have zu:(x.names.length:Int)≤1000000:=by omega
   have xi:=Hh x9;obtain ⟨s,xf⟩:∃s,x.names[j]?=some s:=⟨_,Ac x9⟩;obtain ⟨bq,oq,rfl,y0,yf⟩:=x5.o.get xf;have zg:=x5.o.sizes s (Ao xf);obtain ⟨-,-,-,b,l,y,R,m1,n1,b2,m2,n2,rfl,N,hx,D,q0,q1,q2,q3,q4,q5⟩:=yn.o.at zh;have yi:=YQ xf hx;have hB:=B.bel;have rq:=(hB.cell (p:=⟨bq,oq+j,none⟩) (H.o _ y0)).trans yf;have ck:=aA B.nod;have q:=Hh B;have I:=Hh C;have HA:=Hh hA;have xk:=Hh yi;have yr:=Hh D;have Q:=Hh (Ai q0 (Ai q1 (Ai q2 (Ai q3 (Ai q4 q5)))));clear xf yi hB yf B C hA D q0 q1 q2 q3 q4 q5 hx
   by_cases M:s=sV
   ·have e1:(s.toList == [118])=true:=by rw [←UI];exact nH M
    have xa:=Hh M;clear M
    go_wp2
    go_roundw
    case rel=>exact ⟨j+1,by go_num,by have:=xi.o;omega,vn,vi,ns,A,q.o,by rw [xk.o,Am xa.o,By];exact I.o,by rw [xk.o,Am xa.o,By];exact HA.o⟩
    case measure=>have:=xi.o;simp [intOf];omega
   ·have e1:(s.toList == [118])=false:=by rw [←UI];exact jE M
    have xa:=Hh M;clear M;obtain ⟨⟨an,cn,rfl⟩,ai,ci,rfl⟩:=q.o.forms
    go_upto_region 7 with fail
    have b7:=(Br wr.heap.size wr).alloc (o:=.cells #[.string s] 9) (Lr _);have xh:=q.o.below b7 H.o;have P:=Hh xh;have ym:=cX wr #[.string s] 9 [.string s] rfl;have yb:=Hh ym;have yg:=Hh xh.names.1;have xl:w.heap.size+3≤(wr.alloc (.cells #[.string s] 9)).heap.size:=by have:=Aa xh.res;omega
    have xo:=Hh xl;obtain ⟨iq,x7,yx,ze,y2⟩:=rD;obtain ⟨ip,ya,zf,zb,xb⟩:=rE;have y7:=Hh x7;have zc:=Hh ya;have y3:=underlying25;have y8:=underlying26;clear b7 xh ym xl x7 ya
    go_upto_region 8 with ((refine Ay _ rfl (.tmp 31) (.tmp 33) 25 rfl (w.heap.size+3) 9 iq (.string ⟨#[]⟩) 1 16 y3 y7.o yx ze y2 rfl (by decide) (.slice an ns.length cn) ns.length _ rfl yg.o ⟨wr.heap.size,0,none⟩ 1 1 [.string s] rfl rfl yb.o (by intro u hu;simp at hu;subst hu;rfl) (by decide) (by unfold maxLen;omega) (by omega) xo.o _ rfl ?_);intro gg cc W8 E k X zj;(have F:=(k.block gb (Aa P.o.nod) (fun e=>P.o.s1 e.symm)).trans P.o.nod);(have yo:=aE F);(have x8:=aA F);(have c:=P.o.name H.o E k (fV X) zg);clear E k X F)
    clear yo x8 yg yb xo P ck;generalize W8.setCell ⟨gb,4,none⟩ (.slice (some ⟨gg,0,none⟩) (ns.length+1) cc)=L at c ⊢;have bd:Below L.heap.size L L.drew:=(Br _ _).drew;have yj:=c.below bd H.o;have xz:=Hh yj;have CK:=Hh (fun (wx:World) (m:Below L.heap.size L wx)=>Ai (aA ((m.block _ (Aa c.nod)).trans c.nod)).2.2.2.2.2 (Ai (aA ((m.block _ (Aa c.val)).trans c.val)).2.2.2.2.2 (show _∧_∧_∧_∧_∧_ from ⟨((c.bel.trans (m.mono c.bel.size)).cell (p:=⟨b,l+j * 6,none⟩) (H.o _ N)).trans Q.o.1,((c.bel.trans (m.mono c.bel.size)).cell (p:=⟨b,l+j * 6+1,none⟩) (H.o _ N)).trans Q.o.2.1,((c.bel.trans (m.mono c.bel.size)).cell (p:=⟨b,l+j * 6+2,none⟩) (H.o _ N)).trans Q.o.2.2.1,((c.bel.trans (m.mono c.bel.size)).cell (p:=⟨b,l+j * 6+3,none⟩) (H.o _ N)).trans Q.o.2.2.2.1,((c.bel.trans (m.mono c.bel.size)).cell (p:=⟨b,l+j * 6+4,none⟩) (H.o _ N)).trans Q.o.2.2.2.2.1,((c.bel.trans (m.mono c.bel.size)).cell (p:=⟨b,l+j * 6+5,none⟩) (H.o _ N)).trans Q.o.2.2.2.2.2⟩)))
    clear c yj;refine aI (fun w'=>w'.cell? ⟨gb,5,none⟩=some (.slice ai A.length ci)∧w'.cell? ⟨w.heap.size,5,none⟩=some (.slice (some ⟨b,l,none⟩) x.items.length c2)∧(w'.cell? ⟨b,l+j * 6,none⟩=some (Iz y.kind)∧w'.cell? ⟨b,l+j * 6+1,none⟩=some (.bool y.bool)∧w'.cell? ⟨b,l+j * 6+2,none⟩=some (Iz y.num)∧w'.cell? ⟨b,l+j * 6+3,none⟩=some (.string y.text)∧w'.cell? ⟨b,l+j * 6+4,none⟩=some (.slice R m1 n1)∧w'.cell? ⟨b,l+j * 6+5,none⟩=some (.slice b2 m2 n2))) [1,3,6] (.take 0 (.take 1 (.take 2 (.take 3 (.take 4 (.take 5 (.take 6 (.ask 7 true (.ask 8 false (.take 9 (.ask 10 false .stop .stop)) .stop) .stop)))))))) (by kernel_rfl) (by kernel_rfl) (fun _ d _ _ _ h=>by cases d <;> exact h) (CK.o _ bd) ?_
    generalize L.drew=wd at bd xz ⊢;refine aF _ ?_ rfl rfl ?_ (fun K r=>?_);rotate_left;(intro w0;go_simp;(try rfl));(go_simp;refine r _ ?_;clear r K)
    refine aM _ ?_ rfl rfl (by decide) ?_ (fun K r=>?_);rotate_left;(intro w0 yc;go_simp;(try rfl));(go_simp;refine r _ ?_;clear r K)
    refine aF _ ?_ rfl rfl ?_ (fun K r=>?_);rotate_left;(intro w0;go_simp;(try rfl));(go_simp;refine r _ ?_;clear r K)
    refine aM _ ?_ rfl rfl (by decide) ?_ (fun K r=>?_);rotate_left;(intro w0 yc;go_simp;(try rfl));(go_simp;refine r _ ?_;clear r K)
    iterate 2 (refine aF _ ?_ rfl rfl ?_ (fun K r=>?_);rotate_left;(intro w0;go_simp;(try rfl));(go_simp;refine r _ ?_;clear r K))
    refine aM _ ?_ rfl rfl (by decide) ?_ (fun K r=>?_);rotate_left;(intro w0 yc;go_simp;(try rfl));(go_simp;refine r _ ?_;clear r K)
    have b9:=(Br wd.heap.size wd).alloc (o:=.cells (Na y R m1 n1 b2 m2 n2) 28) (Lr _);have xd:=xz.o.below b9 H.o;have J:=Hh xd;have x6:=Hh (cX wd (Na y R m1 n1 b2 m2 n2) 28 (Nc y R m1 n1 b2 m2 n2) rfl);have xx:=Hh xd.items;have xp:w.heap.size+3≤(wd.alloc (.cells (Na y R m1 n1 b2 m2 n2) 28)).heap.size:=by have:=Aa xd.res;omega
    have U:=Hh xp;have xr:=Hh (yr.o.same (w':=wd.alloc (.cells (Na y R m1 n1 b2 m2 n2) 28)) fun b m=>xd.bel.block b (H.o b m))
    have xn:=Hh yr.o.one;have xu:=CK.o _ (bd.trans (b9.mono bd.size));clear b9 xd xp;refine aH _ rfl trivial ?_
    go_wp2_with fail
    generalize wd.alloc _=w9 at J x6 xx U xr xu ⊢;refine Seg.mk ⟨xu,?_⟩;refine aB _ rfl trivial ?_
    go_wp2_with ((refine Ay _ rfl (.tmp 37) (.tmp 43) 26 rfl (w.heap.size+3) 28 ip (.agg Z6) 6 88 y8 zc.o zf zb xb rfl (by decide) (.slice ai A.length ci) A.length _ rfl xx.o ⟨wd.heap.size,0,none⟩ 1 1 (Nc y R m1 n1 b2 m2 n2) rfl rfl x6.o xn.o (by decide) (by unfold maxLen;omega) (by omega) U.o _ rfl ?_);intro g2 z6 W9 E k X zm;(have F:=(k.block gb (Aa J.o.nod) (fun e=>J.o.s2 e.symm)).trans J.o.nod);(have yo:=aE F);(have x8:=aA F);(have yk:=J.o.item H.o E k (fV X) xr.o);clear E k X F)
    clear xx x6 U J xn xr xz xu;refine Seg.mk ?_;refine aF _ ?_ rfl rfl ?_ (fun K r=>?_);rotate_left;(intro w0;go_simp;(try rfl));(go_simp;refine r _ ?_;clear r K)
    refine bQ _ rfl trivial ?_;have yu:=Hh yk;clear yk
    go_wp2
    go_roundw
    case rel=>exact ⟨j+1,by go_num,by have:=xi.o;omega,_,_,_,_,yu.o,by rw [xk.o,Ae xa.o,I.o];simp,by rw [xk.o,Ae xa.o,Ef,←Bo,←HA.o];simp [aG]⟩
    case measure=>have:=xi.o;simp [intOf];omega
  ·have yt:¬ (j:Int)<(x.names.length:Int):=by omega
   have yd:j=x.names.length:=by omega
   rw [yd,List.take_length,xc.o,List.take_length] at C hA;have q1:=aA B.nod;have q2:=aA (show wr.heap[w.heap.size+1+1]?=_ from B.res)
   have q3:=aE (show wr.heap[w.heap.size+1+1]?=_ from B.res)
   have q:=Hh B;have I:=Hh C;have HA:=Hh hA;clear C hA B yd;obtain ⟨⟨an,cn,rfl⟩,ai,ci,rfl⟩:=q.o.forms;obtain ⟨Ln,V⟩:∃n,n=ns.length:=⟨_,rfl⟩;obtain ⟨Li,Y⟩:∃n,n=A.length:=⟨_,rfl⟩;rw [←V,←Y] at q q1;have T:wr.heap[w.heap.size+1+1]?=some (.cells Z6 28 (0,0)):=q.o.res;obtain ⟨gr,Z⟩:∃g,g=w.heap.size+1+1:=⟨_,rfl⟩;rw [←Z] at q2 q3 T;rw [←Z];have yl:=Hh T;have yz:=Hh Z;have yp:=Hh V;have ye:=Hh Y;clear T Z V Y
   go_wp2
   have zk:=dG yl.o (Iz 5) (.bool false) (Iz 0) (.string ⟨#[]⟩) (.slice an Ln cn) (.slice ai Li ci);have xy:=aO wr gr (Iz 5) (.bool false) (Iz 0) (.string ⟨#[]⟩) (.slice an Ln cn) (.slice ai Li ci);refine Au (v:=.agg #[Iz 5,.bool false,Iz 0,.string ⟨#[]⟩,.slice an Ln cn,.slice ai Li ci]) ?_ ?_ ?_;rotate_left
   ·rfl
   ·have m:=q.o.bel
    have Z:=yz.o;have zw:=q.o.lo;have D:=q.o;have hS:=H.o;have V:=yp.o;have Y:=ye.o;clear yp ye;subst V Y;refine ⟨_,_,rfl,?_,m.grown xy m.size (fun g e=>by have:=Ab (show some gr=some g from e);omega)⟩
    have y5:∀b,(b<wr.heap.size∧b ≠ gr)→(dJ wr gr (Iz 5) (.bool false) (Iz 0) (.string ⟨#[]⟩) (.slice an ns.length cn) (.slice ai A.length ci)).heap[b]?=wr.heap[b]?:=fun b m=>xy.block b m.1 (by intro e;exact m.2 (Ab e))
    have hN:aD (d+1) (fun b=>b<wr.heap.size∧b ≠ gr) wr [Iz 5,.bool false,Iz 0,.string ⟨#[]⟩,.slice an ns.length cn,.slice ai A.length ci] (.mk 5 false 0 ⟨#[]⟩ ns (aG A)):=by
     have h6:∀y,y ∈ A→y.1.length=6:=fun y hy=>(D.old y hy).len
     have yy:∀b,S b→b<wr.heap.size∧b ≠ gr:=fun b m=>⟨Ll (hS b m) D.bel.size,by have:=hS b m;omega⟩
     refine ⟨_,_,rfl,Av _,D.names.strs.mono fun b m=>⟨m.2,by have:=m.1;omega⟩,?_⟩
     have hl:(aG A).length=A.length:=by simp [aG]
     have h1:=D.items;rcases h1.2 with ⟨e,y6⟩ | ⟨g,zp,zx,e,z0,hg,y1,yw,zr,zo⟩
     ·have hn:A=[]:=Aw.1 y6
      subst hn;rw [e];exact cE.nil _ _ _
     ·cases e
      refine ⟨_,ci,by rw [show (ND.mk 5 false 0 ⟨#[]⟩ ns (aG A)).items=aG A from rfl,hl],by rw [show (ND.mk 5 false 0 ⟨#[]⟩ ns (aG A)).items=aG A from rfl,hl];exact y1,yw,fun j x hj=>?_⟩
      have xv:(aG A)[j]?=some x:=hj;have yq:j<A.length:=by have:=dT xv;omega
      have e:A[j]?=some (A[j].1,A[j].2):=by rw [Ac yq]
      have hx:x=A[j].2:=by
       rw [aG,Be,e] at xv;exact (Ab xv).symm
      subst hx;refine ⟨g,0,A[j].1,rfl,⟨Aa hg,by omega⟩,fun f u hu=>?_,(D.old _ (Du yq)).mono yy⟩
      have:=h1.cells (g:=g) rfl _ _ (jX h6 e f u hu);rw [Bs,←Nat.add_assoc] at this;exact this
    have hW:bJ x (vtS v)=.mk 5 false 0 ⟨#[]⟩ ns (aG A):=by rw [I.o,HA.o];rfl
    rw [hW];exact (hN.same y5).mono fun b m=>Ll m.1 xy.size
   ·have s0:=LG yl.o (Iz 5)
    have s1:=LF s0 (.bool false);have s2:=LD s1 (Iz 0);have s3:=LC s2 (.string ⟨#[]⟩);have s4:=lW s3 (.slice an Ln cn);have s5:=kO s4 (.slice ai Li ci);have r0:=(aA s0).1;have r1:=(aA s1).2.1;have r2:=(aA s2).2.2.1;have r3:=(aA s3).2.2.2.1;have r4:=(aA s4).2.2.2.2.1;have r5:=(aA s5).2.2.2.2.2;obtain ⟨q0,q1,q2,q3,q4,q5⟩:=aA s5;simp [results,results46,go_sem,q0,q1,q2,q3,q4,q5,r0,r1,r2,r3,r4,r5]
end Go.Proofs.YtncdpanfefnjlaaGreatDoor