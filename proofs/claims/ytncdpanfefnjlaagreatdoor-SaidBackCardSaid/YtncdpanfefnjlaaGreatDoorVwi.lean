import Derived.Test.YtncdpanfefnjlaaGreatDoorVdoz
import Derived.Test.YtncdpanfefnjlaaGreatDoorVps
set_option linter.unusedVariables false
set_option linter.unusedSimpArgs false
set_option maxHeartbeats 3200000
set_option maxRecDepth 100000
namespace Go.Proofs.YtncdpanfefnjlaaGreatDoor
open Go.Proofs.Tryz
open Go
def sV:Bt:=⟨#[118]⟩
def tN (t:Bt):ND:=.mk 3 false 0 t [] []
def cK (ns:List Bt) (its:List ND):List (Bt × ND):=(ns.zip its).filter fun q=>decide (q.1 ≠ sV)
def bI (n:ND) (t:Bt):ND:=.mk 5 false 0 ⟨#[]⟩ (sV::(cK n.names n.items).map (·.1)) (tN t::(cK n.names n.items).map (·.2))
def eV (p:Bt) (k z:Int):Bt:=vtS ⟨p,1,0,k,z⟩
def vfZ (n:ND) (p:Bt) (k:Int):Int:=((foS k (bI n (eV p k 0))).size:Nat)
def aW (n:ND) (p:Bt) (k:Int):ND:=bI n (eV p k (vfZ n p k))
def fM (n:ND) (p:Bt) (k:Int):Int:=if aU ⟨p,1,0,k,0⟩ then (if n.kind=5∧aB 8 n=true then foE k (bI n (eV p k 0)) else 1) else 2
def jQ (n:ND) (p:Bt) (k:Int):ND:=if fM n p k=0 then aW n p k else nd0
def mC (n:ND) (p:Bt) (k:Int):Bt:=if fM n p k=0 then foS k (aW n p k) else ⟨#[]⟩
theorem lX (ns:List Bt) (its:List ND):(cK ns its).length≤its.length:=by
 have h1:(cK ns its).length≤(ns.zip its).length:=List.length_filter_le _ _;rw [List.length_zip] at h1;omega
theorem oK {ns:List Bt} {its:List ND} {q:Bt × ND} (h:q ∈ cK ns its):q.1 ∈ ns∧q.2 ∈ its∧q.1 ≠ sV:=by
 obtain ⟨h1,h2⟩:=List.mem_filter.1 h;have:=List.of_mem_zip h1;exact ⟨this.1,this.2,Ch h2⟩
theorem uZ {α β:Type}:∀ (l:List α) (m:List β),((l.zip m).map (·.1)).Sublist l
 | [],_=>by simp
 | a::l,[]=>by simp
 | a::l,b::m=>by simpa using uZ l m
theorem PR {ns:List Bt} {its:List ND} (h:ns.Nodup):((cK ns its).map (·.1)).Nodup:=by
 have hs:((cK ns its).map (·.1)).Sublist ((ns.zip its).map (·.1)):=(List.filter_sublist).map _;exact hs.nodup ((uZ ns its).nodup h)
theorem jB (n:ND) (t:Bt):(bI n t).names.length=(cK n.names n.items).length+1∧(bI n t).items.length=(cK n.names n.items).length+1:=by
 unfold bI ND.names ND.items;simp
theorem xQ {d:Nat} {n:ND} {t:Bt} (h:cH d n) (hd:1≤d) (ht:aV t=true) (hl:(cK n.names n.items).length+1≤256):cH d (bI n t):=by
 refine ⟨rfl,rfl,rfl,rfl,?_,?_,?_,?_,?_⟩
 ·rw [(jB n t).1,(jB n t).2]
 ·rw [(jB n t).2];exact hl
 ·intro s hs
  rcases Bz.1 hs with rfl | hs
  ·decide
  ·obtain ⟨q,hq,rfl⟩:=Bl.1 hs
   exact h.texts _ (oK hq).1
 ·refine List.nodup_cons.2 ⟨fun hm=>?_,PR h.nodup⟩
  obtain ⟨q,hq,e⟩:=Bl.1 hm;exact (oK hq).2.2 e
 ·intro y hy
  rcases Bz.1 hy with rfl | hy
  ·obtain ⟨m,rfl⟩:∃m,d=m+1:=⟨d - 1,by omega⟩
   rw [cQ]
   show (eQ (tN t) && true)=true
   rw [Bool.and_true];unfold eQ tN;simp [ND.kind,ND.bool,ND.num,ND.text,ND.names,ND.items,ht]
  ·obtain ⟨q,hq,rfl⟩:=Bl.1 hy
   exact h.items _ (oK hq).2.1
theorem BS {n:ND} {t:Bt} (h:aB 8 (bI n t)=true):(cK n.names n.items).length+1≤256:=by
 have:=((bY (d:=7) rfl).1 h).most
 rwa [(jB n t).2] at this
theorem vG {v:VD} (h:aU v=true):(vtS v).data.toList=fH v∧(vtS v).size=17∧∀c,c ∈ fH v→48≤c.toNat∧c.toNat≤122∧c.toNat ≠ 92:=by
 have e:vtS v=⟨(fH v).toArray⟩:=by unfold vtS;rw [Am h]
 refine ⟨by rw [e],by rw [e];show (fH v).toArray.size=17;rw [Du];exact fS h,fun c hc=>?_⟩
 obtain ⟨h1,h2,h3,h4,h5⟩:=dA h;have hx:∀k n c,c ∈ vhL k n→48≤c.toNat∧c.toNat≤102∧c.toNat ≠ 92:=by
  intro k
  induction k with
  | zero=>intro n c hc;cases hc
  | succ k ih=>
   intro n c hc;rw [vhL] at hc;rcases Bb.1 hc with hc | hc
   ·exact ih _ _ hc
   ·cases At.1 hc
    have:∀n:Fin 16,48≤(vhC n.1).toNat∧(vhC n.1).toNat≤102∧(vhC n.1).toNat ≠ 92:=by decide
    exact this ⟨n % 16,Nat.mod_lt _ (by decide)⟩
 unfold fH at hc;simp only [Bb] at hc;rcases hc with hc | hc | hc | hc | hc | hc
 ·unfold aU uR at h
  simp only [Ak,Aw,Av] at h;have:=h.1.1.1.1.2 c hc;omega
 ·have:=hx _ _ _ hc;omega
 ·have:=hx _ _ _ hc;omega
 ·rcases h2 with h2 | h2 | h2 <;> rw [h2] at hc <;> revert c <;> decide
 ·have:=hx _ _ _ hc;omega
 ·cases At.1 hc;decide
theorem tM {v:VD} (h:aU v=true):aV (vtS v)=true:=by
 obtain ⟨h1,h2,h3⟩:=vG h;unfold aV;rw [h2,h1,Lib.validD_ascii (fH v).length (fH v) (fun c hc=>by have:=h3 c (List.mem_of_mem_take hc);omega),List.drop_length]
 rfl
theorem vM {l:Ub} (h:∀c,c ∈ l→48≤c.toNat∧c.toNat≤122∧c.toNat ≠ 92):bH l=34::(l++[34]):=by
 have e:l.flatMap gE=l:=by
  induction l with
  | nil=>rfl
  | cons c t ih=>
   rw [Co,ih fun c hc=>h c (by simp [hc])]
   have hj:gE c=[c]:=by
    have:∀k:Fin 256,48≤k.1→k.1≤122→k.1 ≠ 92→gE (UInt8.ofNat k.1)=[UInt8.ofNat k.1]:=by decide +kernel
    have hc:=h c (by simp)
    have:=this ⟨c.toNat,c.toNat_lt⟩ hc.1 hc.2.1 hc.2.2
    rwa [show UInt8.ofNat c.toNat=c from Dj] at this
   rw [hj];rfl
 unfold bH;rw [e]
theorem ZU (a:Ub) (l:List (Ub)):∃r,∀a:Ub,dV (a::l)=a++r:=by
 cases l with
 | nil=>exact ⟨[],fun a=>(Bu a).symm⟩
 | cons b t=>exact ⟨44::dV (b::t),fun a=>rfl⟩
theorem NK (n:ND):∃r,∀v,aU v=true→aT 8 (bI n (vtS v))=[123,34,118,34,58,34]++(fH v++r):=by
 obtain ⟨r,hr⟩:=ZU [] (List.zipWith (fun s y=>bH s.data.toList++58::aT 7 y) ((cK n.names n.items).map (·.1)) ((cK n.names n.items).map (·.2)))
 refine ⟨34::(r++[125]),fun v hv=>?_⟩
 obtain ⟨h1,h2,h3⟩:=vG hv;have e:aT 8 (bI n (vtS v))=123::(dV ((bH sV.data.toList++58::aT 7 (tN (vtS v)))::List.zipWith (fun s y=>bH s.data.toList++58::aT 7 y) ((cK n.names n.items).map (·.1)) ((cK n.names n.items).map (·.2)))++[125]):=rfl
 have e2:aT 7 (tN (vtS v))=bH (vtS v).data.toList:=rfl;rw [e,hr,e2,h1,vM h3,show bH sV.data.toList=[34,118,34] from rfl]
 simp
theorem NP (n:ND) (hl:(cK n.names n.items).length+1≤256):∃h r,((cK n.names n.items).length+1<16→∀c,c ∈ h→c.toNat<65∨90<c.toNat)∧h.length≤6∧∀v,aU v=true→bJ 8 (bI n (vtS v))=h++(fH v++r):=by
 refine ⟨eA 5 ((cK n.names n.items).length+1)++[97,118,113],(List.zipWith (fun s y=>fY s++bJ 7 y) ((cK n.names n.items).map (·.1)) ((cK n.names n.items).map (·.2))).flatten,?_,?_,fun v hv=>?_⟩
 ·intro h c hc
  have e:eA 5 ((cK n.names n.items).length+1)=[UInt8.ofNat (32 * 5+((cK n.names n.items).length+1))]:=by
   unfold eA gU fN;rw [Am (by omega),Am (by omega)];rfl
  rw [e] at hc;rcases Bb.1 hc with hc | hc
  ·cases At.1 hc
   rw [Be,Nat.mod_eq_of_lt (by omega)]
   exact .inr (by omega)
  ·have:∀c,c ∈ ([97,118,113]:Ub)→90<c.toNat:=by decide
   exact .inr (this c hc)
 ·rw [Lg,kU]
  have:fN ((cK n.names n.items).length+1)≤2:=by unfold fN;(repeat' split) <;> omega
  show _+1+3≤6
  omega
 ·obtain ⟨h1,h2,h3⟩:=vG hv
  have e:bJ 8 (bI n (vtS v))=eA 5 (bI n (vtS v)).items.length++(((fY sV++bJ 7 (tN (vtS v)))::List.zipWith (fun s y=>fY s++bJ 7 y) ((cK n.names n.items).map (·.1)) ((cK n.names n.items).map (·.2))).flatten):=rfl
  have e2:bJ 7 (tN (vtS v))=eA 3 (vtS v).size++(vtS v).data.toList:=rfl;rw [e,(jB n (vtS v)).2,Bp,e2,h1,h2,show fY sV=[97,118] from rfl,show eA 3 17=[113] from rfl]
  simp
theorem NJ (n:ND) (hl:(cK n.names n.items).length+1≤256):∃h r,((cK n.names n.items).length+1<16→∀c,c ∈ h→c.toNat<65∨90<c.toNat)∧h.length≤6∧∀v,aU v=true→bL 8 (bI n (vtS v))=h++(fH v++r):=by
 refine ⟨cZ (mB ((cK n.names n.items).length+1)) ((cK n.names n.items).length+1)++[161,118,177],(List.zipWith (fun s y=>gT s++bL 7 y) ((cK n.names n.items).map (·.1)) ((cK n.names n.items).map (·.2))).flatten,?_,?_,fun v hv=>?_⟩
 ·intro h c hc
  have e:cZ (mB ((cK n.names n.items).length+1)) ((cK n.names n.items).length+1)=[UInt8.ofNat (128+((cK n.names n.items).length+1))]:=by
   unfold cZ mB;rw [Am h];rfl
  rw [e] at hc;rcases Bb.1 hc with hc | hc
  ·cases At.1 hc
   rw [Be,Nat.mod_eq_of_lt (by omega)]
   exact .inr (by omega)
  ·have:∀c,c ∈ ([161,118,177]:Ub)→90<c.toNat:=by decide
   exact .inr (this c hc)
 ·unfold cZ
  rw [Lg,Ag,aY];have:(mB ((cK n.names n.items).length+1)).2≤2:=by unfold mB;split <;> first | exact Ax _ | decide
  show _+1+3≤6
  omega
 ·obtain ⟨h1,h2,h3⟩:=vG hv
  have e:bL 8 (bI n (vtS v))=cZ (mB (bI n (vtS v)).items.length) (bI n (vtS v)).items.length++(((gT sV++bL 7 (tN (vtS v)))::List.zipWith (fun s y=>gT s++bL 7 y) ((cK n.names n.items).map (·.1)) ((cK n.names n.items).map (·.2))).flatten):=rfl
  have e2:bL 7 (tN (vtS v))=cZ (kL (vtS v).size) (vtS v).size++(vtS v).data.toList:=rfl;rw [e,(jB n (vtS v)).2,Bp,e2,h1,h2,show gT sV=[161,118] from rfl,show cZ (kL 17) 17=[177] from rfl]
  simp
def wrL (k:Int) (x:ND):Ub:=if k=1 then aT 8 x else if k=2 then bJ 8 x else bL 8 x
structure FoK (k:Int) (x:ND):Prop where
 k1:1≤k
 k3:k≤3
 valid:aB 8 x=true
 nums:aO 8 x=true
 len:(wrL k x).length≤65536
theorem FoK.err {k:Int} {x:ND} (h:FoK k x):foE k x=0∧(foS k x).data.toList=wrL k x:=by
 obtain ⟨k1,k3,hv,hn,hl⟩:=h;rcases (by omega:k=1∨k=2∨k=3) with rfl | rfl | rfl
 ·obtain ⟨a,b⟩:=sO hv (Nat.not_lt.2 hl)
  exact ⟨b,by show (jsS x).data.toList=_;rw [a];rfl⟩
 ·obtain ⟨a,b⟩:=sT hv (Nat.not_lt.2 hl)
  exact ⟨b,by show (csS x).data.toList=_;rw [a,iE];rfl⟩
 ·obtain ⟨a,b⟩:=pI hv (Nat.not_lt.2 hl)
  exact ⟨b,by show (mpS x).data.toList=_;rw [a,iE];rfl⟩
theorem FoK.size {k:Int} {x:ND} (h:FoK k x):(foS k x).size=(wrL k x).length:=by rw [←h.err.2,Ah];rfl
theorem QK {k:Int} {x:ND} (h1:1≤k) (h3:k≤3) (h:aB 8 x=false):foE k x=1:=by
 rcases (by omega:k=1∨k=2∨k=3) with rfl | rfl | rfl
 ·exact (FS h).2
 ·exact (GD h).2
 ·exact (zF h).2
theorem GB {k:Int} {x:ND} (h1:1≤k) (h3:k≤3) (h:aB 8 x=true) (hl:65536<(wrL k x).length):foE k x=3:=by
 rcases (by omega:k=1∨k=2∨k=3) with rfl | rfl | rfl
 ·exact (zM h hl).2
 ·exact (AD h hl).2
 ·exact (tZ h hl).2
theorem YX {k:Int} {x:ND} (hv:aB 8 x=true) (hn:aO 8 x=true):(wrL k x).length≤bG 8 x:=by
 unfold wrL
 split
 ·exact vC 8 x hv hn
 ·split
  ·exact vD 8 x hv
  ·exact vA 8 x hv
theorem IU (k:Int) (n:ND) (hl:(cK n.names n.items).length+1≤256):∃h r,((cK n.names n.items).length+1<16→∀c,c ∈ h→c.toNat<65∨90<c.toNat)∧h.length≤6∧∀v,aU v=true→wrL k (bI n (vtS v))=h++(fH v++r):=by
 unfold wrL
 split
 ·obtain ⟨r,hr⟩:=NK n
  exact ⟨[123,34,118,34,58,34],r,fun _=>by decide,by decide,hr⟩
 ·split
  ·exact NP n hl
  ·exact NJ n hl
theorem qL {α:Type} (p:α→Bool) (f:α→Nat):∀l:List α,((l.filter p).map f).sum≤(l.map f).sum
 | []=>Lr _
 | a::t=>by
  have:=qL p f t;rw [List.filter_cons]
  split
  ·rw [Bj,Cg,Bj,Cg];omega
  ·rw [Bj,Cg];omega
def AT (n:ND):Prop:=aO 8 n=true∧bG 8 n≤1000000000
theorem gK {n:ND} {t:Bt} {d:Nat} (h:aO d n=true):aO d (bI n t)=true:=by
 cases d with
 | zero=>rfl
 | succ d=>
  rw [cJ,Ak,Aw] at h ⊢;refine ⟨show dD 0=true by decide,fun y hy=>?_⟩
  rcases Bz.1 hy with rfl | hy
  ·cases d with
   | zero=>rfl
   | succ d=>rw [cJ];rfl
  ·obtain ⟨q',hq,rfl⟩:=Bl.1 hy
   exact h.2 _ (oK hq).2.1
theorem qI {n:ND} {v:VD} {q:Nat} (hl:n.names.length=n.items.length) (hv:aU v=true):bG (q+2) (bI n (vtS v))≤bG (q+2) n+141:=by
 obtain ⟨h1,h2,h3⟩:=vG hv;have e:bG (q+2) (bI n (vtS v))=24+0+((6 * 1+8)+(((cK n.names n.items).map (·.1)).map fun s=>6 * s.size+8).sum)+((bG (q+1) (tN (vtS v))+1)+(((cK n.names n.items).map (·.2)).map fun y=>bG (q+1) y+1).sum):=rfl
 have e2:bG (q+1) (tN (vtS v))=24+6 * (vtS v).size+0+0:=rfl;have e3:bG (q+2) n=_:=eC (q+1) n;have s1:=qL (fun q:Bt × ND=>decide (q.1 ≠ sV)) (fun q=>6 * q.1.size+8) (n.names.zip n.items)
 have s2:=qL (fun q:Bt × ND=>decide (q.1 ≠ sV)) (fun z=>bG (q+1) z.2+1) (n.names.zip n.items)
 have z1:(n.names.zip n.items).map (fun q=>6 * q.1.size+8)=n.names.map fun s=>6 * s.size+8:=by
  rw [show (fun q:Bt × ND=>6 * q.1.size+8)=(fun s:Bt=>6 * s.size+8) ∘ Prod.fst from rfl,←Dc,List.map_fst_zip (by rw [hl];exact Lr _)]
 have z2:(n.names.zip n.items).map (fun z=>bG (q+1) z.2+1)=n.items.map fun y=>bG (q+1) y+1:=by
  rw [show (fun z:Bt × ND=>bG (q+1) z.2+1)=(fun y:ND=>bG (q+1) y+1) ∘ Prod.snd from rfl,←Dc,List.map_snd_zip (by rw [hl];exact Lr _)]
 rw [z1] at s1;rw [z2] at s2;rw [Dc,Dc] at e;have s1':((cK n.names n.items).map ((fun s:Bt=>6 * s.size+8) ∘ fun q=>q.1)).sum≤(n.names.map fun s=>6 * s.size+8).sum:=s1
 have s2':((cK n.names n.items).map ((fun y:ND=>bG (q+1) y+1) ∘ fun q=>q.2)).sum≤(n.items.map fun y=>bG (q+1) y+1).sum:=s2
 omega
theorem XT {n:ND} {p:Bt} {k:Int} (hv:aU ⟨p,1,0,k,0⟩=true) {z:Int} (h0:0≤z) (h1:z≤65536):aU ⟨p,1,0,k,z⟩=true:=by
 unfold aU at hv ⊢;simp only [Ak] at hv ⊢;refine ⟨hv.1,?_⟩;unfold inR;rw [An h0,An (by omega:z≤16777215)];rfl
theorem GA (k:Int) (x:ND):(foS k x).size≤65536:=by
 unfold foS
 (repeat' split)
 ·exact aBm x
 ·exact aDd x
 ·exact VZ x
 ·exact Ax _
theorem uL (n:ND) (p:Bt) (k:Int) (h:aB 8 n=true→n.kind=5→aO 8 n=true) :
 (aU ⟨p,1,0,k,0⟩=false∧fM n p k=2)∨(aU ⟨p,1,0,k,0⟩=true∧¬ (n.kind=5∧aB 8 n=true)∧fM n p k=1)
 ∨ (∃er,(aB 8 (bI n (eV p k 0))=false∧er=1∨aB 8 (bI n (eV p k 0))=true∧er=3)∧aU ⟨p,1,0,k,0⟩=true∧n.kind=5∧aB 8 n=true∧aO 8 n=true∧foE k (bI n (eV p k 0))=er∧fM n p k=er)
 ∨ (aU ⟨p,1,0,k,0⟩=true∧n.kind=5∧aB 8 n=true∧aO 8 n=true∧FoK k (bI n (eV p k 0))∧aU ⟨p,1,0,k,vfZ n p k⟩=true∧FoK k (aW n p k)∧(foS k (aW n p k)).size=(foS k (bI n (eV p k 0))).size∧fM n p k=0):=by
 cases hv:aU ⟨p,1,0,k,0⟩ with
 | false=>exact .inl ⟨rfl,by unfold fM;rw [hv];rfl⟩
 | true=>
  refine .inr ?_;have hk:1≤k∧k≤3:=by
   have:=(dA hv).2.1;simp only at this;omega
  by_cases hn:n.kind=5∧aB 8 n=true
  ·refine .inr ?_
   have hE:fM n p k=foE k (bI n (eV p k 0)):=by unfold fM;rw [hv,Am rfl,Am hn]
   have FO:=h hn.2 hn.1;cases hd:aB 8 (bI n (eV p k 0)) with
   | false=>
    have:=QK hk.1 hk.2 hd;exact .inl ⟨1,.inl ⟨rfl,rfl⟩,rfl,hn.1,hn.2,FO,this,hE.trans this⟩
   | true=>
    by_cases hln:65536<(wrL k (bI n (eV p k 0))).length
    ·have:=GB hk.1 hk.2 hd hln
     exact .inl ⟨3,.inr ⟨rfl,rfl⟩,rfl,hn.1,hn.2,FO,this,hE.trans this⟩
    ·have hl:=BS hd
     have K0:FoK k (bI n (eV p k 0)):=⟨hk.1,hk.2,hd,gK FO,Nat.not_lt.1 hln⟩;have hz:aU ⟨p,1,0,k,vfZ n p k⟩=true:=XT (n:=n) hv (by unfold vfZ;omega) (by have:=GA k (bI n (eV p k 0));unfold vfZ;omega)
     obtain ⟨a,r,-,-,hf⟩:=IU k n hl;have e0:=Ad List.length (hf _ hv);have e1:=Ad List.length (hf _ hz);rw [Lg,Lg,fS hv] at e0;rw [Lg,Lg,fS hz] at e1;have e2:(wrL k (aW n p k)).length=(wrL k (bI n (eV p k 0))).length:=e1.trans e0.symm;have hm:cH 7 n:=(bY hn.1).1 hn.2;have K1:FoK k (aW n p k):=⟨hk.1,hk.2,(bY rfl).2 (xQ hm (by decide) (tM hz) hl),gK FO,by rw [e2];exact K0.len⟩
     exact .inr ⟨rfl,hn.1,hn.2,FO,K0,hz,K1,by rw [K1.size,K0.size,e2],hE.trans K0.err.1⟩
  ·exact .inl ⟨rfl,hn,by unfold fM;rw [hv,Am rfl,Af hn]⟩
theorem aCm {n:ND} {p:Bt} {k:Int} (h:aO 8 n=true) (h0:fM n p k=0):FoK k (aW n p k):=by
 rcases uL n p k (fun _ _=>h) with ⟨-,g⟩ | ⟨-,-,g⟩ | ⟨er,g,-,-,-,-,-,g2⟩ | ⟨-,-,-,-,-,-,g,-⟩
 ·rw [g] at h0;cases h0
 ·rw [g] at h0;cases h0
 ·rw [h0] at g2
  rcases g with ⟨-,rfl⟩ | ⟨-,rfl⟩ <;> cases g2
 ·exact g
end Go.Proofs.YtncdpanfefnjlaaGreatDoor
namespace Go.Proofs.YtncdpanfefnjlaaGreatDoor
open Go.Proofs.Tryz
open Go Go.ChangeShapes Go.WideShapes Go.ChangeAt Go.RowKit
structure VSt (TN TS:TypeId) (d:Nat) (S:Nat→Prop) (w wx:World) (gb:Nat) (cv:Vl) (vn vi:Value) (ns:List Bt) (A:List NC):Prop where
 res:wx.heap[w.heap.size+2]?=some (.cells Z6 TN (0,0))
 val:wx.heap[w.heap.size]?=some (.cells cv.toArray TN (0,0))
 nod:wx.heap[gb]?=some (.cells #[Iz 5,.bool false,Iz 0,.string ⟨#[]⟩,vn,vi] TN (0,0))
 lo:w.heap.size+3≤gb
 names:jH TS (w.heap.size+3) wx vn ns
 items:wx.ownsRow (w.heap.size+3) TN 6 vi A.length (cF A)
 s1:vn.ownBlock ≠ some gb
 s2:vi.ownBlock ≠ some gb
 s3:∀b,vn.ownBlock=some b→vi.ownBlock ≠ some b
 old:∀y,y ∈ A→aC d S wx y.1 y.2
 bel:Below w.heap.size w wx
section
variable {TN TS:TypeId} {d:Nat} {S:Nat→Prop} {w wx wn:World} {gb:Nat} {cv:Vl} {vn vi:Value} {ns:List Bt} {A:List NC}
theorem VSt.below (h:VSt TN TS d S w wx gb cv vn vi ns A) (hb:Below wx.heap.size wx wn) (hS:∀b,S b→b<w.heap.size):VSt TN TS d S w wn gb cv vn vi ns A:=by
 have hk:∀ {b:Nat} {o:Obj},wx.heap[b]?=some o→wn.heap[b]?=some o:=fun h=>(hb.block _ (Aa h)).trans h
 exact ⟨hk h.res,hk h.val,hk h.nod,h.lo,h.names.below hb,fG h.items hb,h.s1,h.s2,h.s3,fun y hy=>(h.old y hy).same fun b hb'=>hb.block b (Ll (hS b hb') h.bel.size),h.bel.trans (hb.mono h.bel.size)⟩
theorem VSt.forms (h:VSt TN TS d S w wx gb cv vn vi ns A):(∃an cn,vn=.slice an ns.length cn)∧∃ai ci,vi=.slice ai A.length ci:=by
 constructor
 ·obtain ⟨a,c,e,_⟩:=h.names.strs;exact ⟨a,c,e⟩
 ·rcases h.items.2 with ⟨rfl,h0⟩ | ⟨g,cap,cur,rfl,_⟩
  ·exact ⟨none,0,by rw [h0]⟩
  ·exact ⟨_,cap,rfl⟩
theorem VSt.name {vn':Value} {s:Bt} (h:VSt TN TS d S w wx gb cv vn vi ns A) (hS:∀b,S b→b<w.heap.size) (hown:wn.ownsRow (w.heap.size+3) TS 1 vn' (ns.length+1) (ns.map Value.string++[.string s])) (hg:wx.grownBy wn vn.ownBlock) (hat:vn'.ownBlock=vn.ownBlock∨∀b,vn'.ownBlock=some b→wx.heap.size≤b) (hs:s.size≤maxLen - 2) :
 VSt TN TS d S w (wn.setCell ⟨gb,4,none⟩ vn') gb cv vn' vi (ns++[s]) A:=by
 have hgb:=Aa h.nod;have hlo:=h.lo;have hne:∀i,i ≠ gb→(wn.setCell ⟨gb,4,none⟩ vn').heap[i]?=wn.heap[i]?:=fun i hi=>heap_setCell_other wn ⟨gb,4,none⟩ i _ hi
 have hsz:(wn.setCell ⟨gb,4,none⟩ vn').heap.size=wn.heap.size:=by simp
 have hgs:=aR wn gb 4 vn';have hold:∀j,j<w.heap.size+3→j<wx.heap.size→wn.heap[j]?=wx.heap[j]?:=fun j hj hl=>hg.block j hl fun e=>by have:=(h.names.1.lt j e.symm).1;omega
 have hrs:=Aa h.res;have hn1:vn'.ownBlock ≠ some gb:=fun e=>by
  rcases hat with ha | ha
  ·rw [ha] at e;exact h.s1 e
  ·have:=ha gb e;omega
 refine ⟨(hne _ (by omega)).trans ((hold _ (by omega) hrs).trans h.res),(hne _ (by omega)).trans ((hold _ (by omega) (Aa h.val)).trans h.val),lI ((hg.block gb hgb (fun e=>h.s1 e.symm)).trans h.nod) vn',hlo,?_,?_,hn1,h.s2,?_,?_,?_⟩
 ·exact (h.names.push hown hs).kept hgs (.inr fun e=>hn1 e)
 ·refine (h.items.kept hg ?_).kept hgs (.inr fun e=>h.s2 e)
  cases e2:vi.ownBlock with
  | none=>exact .inl rfl
  | some b2=>exact .inr fun e3=>h.s3 b2 e3.symm e2
 ·intro b hb e
  rcases hat with ha | ha
  ·rw [ha] at hb;exact h.s3 b hb e
  ·have:=ha b hb
   have:=(h.items.lt b e).2;omega
 ·intro y hy
  refine (h.old y hy).same fun b hb=>(hne b (by have:=hS b hb;omega)).trans (hold b (by have:=hS b hb;omega) (Ll (hS b hb) h.bel.size))
 ·have hb:=h.bel
  exact ⟨hg.os.trans hb.os,hg.tape.trans hb.tape,hg.output.trans hb.output,by rw [hsz];exact Ae hb.size hg.size,fun i hi=>(hne i (by omega)).trans ((hold i (by omega) (Ll hi hb.size)).trans (hb.block i hi))⟩
theorem VSt.item {vi':Value} {cs:Vl} {y:ND} (h:VSt TN TS d S w wx gb cv vn vi ns A) (hS:∀b,S b→b<w.heap.size) (hown:wn.ownsRow (w.heap.size+3) TN 6 vi' (A.length+1) (cF A++cs)) (hg:wx.grownBy wn vi.ownBlock) (hat:vi'.ownBlock=vi.ownBlock∨∀b,vi'.ownBlock=some b→wx.heap.size≤b) (hy:aC d S wx cs y) :
 VSt TN TS d S w (wn.setCell ⟨gb,5,none⟩ vi') gb cv vn vi' ns (A++[(cs,y)]):=by
 have hgb:=Aa h.nod;have hlo:=h.lo;have hne:∀i,i ≠ gb→(wn.setCell ⟨gb,5,none⟩ vi').heap[i]?=wn.heap[i]?:=fun i hi=>heap_setCell_other wn ⟨gb,5,none⟩ i _ hi
 have hsz:(wn.setCell ⟨gb,5,none⟩ vi').heap.size=wn.heap.size:=by simp
 have hgs:=aR wn gb 5 vi';have hold:∀j,j<w.heap.size+3→j<wx.heap.size→wn.heap[j]?=wx.heap[j]?:=fun j hj hl=>hg.block j hl fun e=>by have:=(h.items.lt j e.symm).1;omega
 have hrs:=Aa h.res;have hn1:vi'.ownBlock ≠ some gb:=fun e=>by
  rcases hat with ha | ha
  ·rw [ha] at e;exact h.s2 e
  ·have:=ha gb e;omega
 have hoy:∀ {cs:Vl} {x:ND},aC d S wx cs x→aC d S (wn.setCell ⟨gb,5,none⟩ vi') cs x:=fun q=>q.same fun b hb=>(hne b (by have:=hS b hb;omega)).trans (hold b (by have:=hS b hb;omega) (Ll (hS b hb) h.bel.size))
 refine ⟨(hne _ (by omega)).trans ((hold _ (by omega) hrs).trans h.res),(hne _ (by omega)).trans ((hold _ (by omega) (Aa h.val)).trans h.val),kD ((hg.block gb hgb (fun e=>h.s2 e.symm)).trans h.nod) vi',hlo,?_,?_,h.s1,hn1,?_,?_,?_⟩
 ·refine (h.names.kept hg ?_).kept hgs (.inr fun e=>h.s1 e)
  cases e2:vn.ownBlock with
  | none=>exact .inl rfl
  | some b2=>exact .inr fun e3=>h.s3 b2 e2 e3.symm
 ·refine World.ownsRow.kept ?_ hgs (.inr fun e=>hn1 e)
  rw [Lg,jV]
  simpa [cF] using hown
 ·intro b hb e
  rcases hat with ha | ha
  ·rw [ha] at e;exact h.s3 b hb e
  ·have:=ha b e
   have:=(h.names.1.lt b hb).2;omega
 ·intro z hz
  rcases Bb.1 hz with hz | hz
  ·exact hoy (h.old z hz)
  ·cases At.1 hz;exact hoy hy
 ·have hb:=h.bel
  exact ⟨hg.os.trans hb.os,hg.tape.trans hb.tape,hg.output.trans hb.output,by rw [hsz];exact Ae hb.size hg.size,fun i hi=>(hne i (by omega)).trans ((hold i (by omega) (Ll hi hb.size)).trans (hb.block i hi))⟩
end
theorem SG:sV.toList=[118]:=by decide +kernel
theorem XB {ns:List Bt} {its:List ND} {j:Nat} {s:Bt} {y:ND} (h1:ns[j]?=some s) (h2:its[j]?=some y):cK (ns.take (j+1)) (its.take (j+1))=cK (ns.take j) (its.take j)++(if s=sV then [] else [(s,y)]):=by
 have l1:=dH h1;have l2:=dH h2;have t1:ns.take (j+1)=ns.take j++[s]:=by rw [Bf,h1];rfl
 have t2:its.take (j+1)=its.take j++[y]:=by rw [Bf,h2];rfl
 rw [t1,t2];unfold cK;rw [List.zip_append (by rw [Ba,Ba];omega),List.filter_append]
 congr 1
 by_cases h:s=sV
 ·rw [Am h];simp [h]
 ·rw [Af h];simp [h]
def GM (d:Nat) (w:World) (y:ND) (e:Ending) (w':World):Prop:=∃vn vi:Value,e=.returned (.agg #[Iz 5,.bool false,Iz 0,.string ⟨#[]⟩,vn,vi])∧aC d (fun b=>b<w'.heap.size) w' [Iz 5,.bool false,Iz 0,.string ⟨#[]⟩,vn,vi] y∧Below w.heap.size w w'
theorem UG {d:Nat} {S:Nat→Prop} (cs:Vl) (x:ND) (v:VD) (w:World) (h:aC (d+1) S w cs x) (hS:∀b,S b→b<w.heap.size) (hlow:jG (d+1) x) (hlen:x.names.length=x.items.length) (hd:1≤d) (hv:AO v) (hz:(vtS v).size≤100) (hT:DB w) :
 Calls prog 46 #[.agg cs.toArray,.agg (vcs v)] w (GM (d+1) w (bI x (vtS v))):=by
 obtain ⟨a1,l1,c1,a2,l2,c2,rfl⟩:=h.slices;obtain ⟨vn,vi,e,ht,hns,his⟩:=h;simp only [Bq,Di,Dp] at e;obtain ⟨rfl,rfl⟩:=e;obtain ⟨w1,hw1⟩:∃W,W=((w.alloc (.cells (Na x a1 l1 c1 a2 l2 c2) 28)).alloc (.cells #[.string v.p,Iz v.a,Iz v.b,Iz v.f,Iz v.z] 58)).alloc (.cells Z6 28):=⟨_,rfl⟩;have z1:(w.alloc (.cells (Na x a1 l1 c1 a2 l2 c2) 28)).heap.size=w.heap.size+1:=by simp
 have z2:((w.alloc (.cells (Na x a1 l1 c1 a2 l2 c2) 28)).alloc (.cells #[.string v.p,Iz v.a,Iz v.b,Iz v.f,Iz v.z] 58)).heap.size=w.heap.size+2:=by simp
 have b1:Below w.heap.size w w1:=by rw [hw1];exact (((Br _ _).alloc (Lr _) _).alloc (by simp) _).alloc (by simp;omega) _
 have k0:w1.heap[w.heap.size]?=some (.cells (Na x a1 l1 c1 a2 l2 c2) 28 (0,0)):=by rw [hw1];exact (Bh _ _ _ (by omega)).trans ((Bh _ _ _ (by omega)).trans (Hn _ _))
 have k1:w1.heap[w.heap.size+1]?=some (.cells #[.string v.p,Iz v.a,Iz v.b,Iz v.f,Iz v.z] 58 (0,0)):=by
  have:=Hn (w.alloc (.cells (Na x a1 l1 c1 a2 l2 c2) 28)) (.cells #[.string v.p,Iz v.a,Iz v.b,Iz v.f,Iz v.z] 58);rw [z1] at this;rw [hw1];exact (Bh _ _ _ (by omega)).trans this
 have k2:w1.heap[w.heap.size+2]?=some (.cells Z6 28 (0,0)):=by
  have:=Hn ((w.alloc (.cells (Na x a1 l1 c1 a2 l2 c2) 28)).alloc (.cells #[.string v.p,Iz v.a,Iz v.b,Iz v.f,Iz v.z] 58)) (.cells Z6 28);rw [z2] at this;rw [hw1];exact this
 have z3:w1.heap.size=w.heap.size+3:=by rw [hw1];simp
 have TX:=Hh (nW v w1 hv (hT.below b1));have NT:=Hh (fun wx:World=>gA (vtS v) wx)
 have HS:=Hh hS;have HNS:=Hh hns;have HIS:=Hh his;have HL:=Hh hlow;have K0:=Hh k0;have K2:=Hh k2;have B1:=Hh b1;have Z3:=Hh z3;have c5:=dM k1;have HLEN:=Hh hlen;clear hlow hS hns his k0 k1 k2 b1 z1 z2 z3 ht hv hT hlen;unfold vcs at TX ⊢
 go_enter func46,ntmps46
 go_upto_region 1 with fail
 rw [←hw1];clear hw1
 go_upto_region 2 with ((with_reducible refine (TX.o).mono ?_);rintro e w2 ⟨rfl,hb2⟩)
 clear c5 TX
 go_upto_region 3 with ((with_reducible refine (NT.o _).mono ?_);rintro e w3 ⟨rfl,hb3⟩)
 have hz2:=hb2.size;have hz3:=Z3.o;have bs:=(Br w2.heap.size w2).alloc (o:=.cells #[.string ⟨#[118]⟩] 9) (Lr _);have on:=World.ownsRow_lit (base:=w.heap.size+3) (e:=9) (size:=1) w2 #[.string ⟨#[118]⟩] 1 (by omega) (by decide) rfl
 have b3:=bs.trans (hb3.mono bs.size);have bi:=(Br w3.heap.size w3).alloc (o:=.cells #[Iz 3,.bool false,Iz 0,.string (vtS v),Sn,Sn] 28) (Lr _);have oi:=World.ownsRow_lit (base:=w.heap.size+3) (e:=28) (size:=6) w3 #[Iz 3,.bool false,Iz 0,.string (vtS v),Sn,Sn] 1 (by have:=b3.size;omega) (by decide) rfl
 have bn:=(Br (w3.alloc (.cells #[Iz 3,.bool false,Iz 0,.string (vtS v),Sn,Sn] 28)).heap.size (w3.alloc (.cells #[Iz 3,.bool false,Iz 0,.string (vtS v),Sn,Sn] 28))).alloc (o:=.cells #[Iz 5,.bool false,Iz 0,.string ⟨#[]⟩,.slice (some ⟨w2.heap.size,0,none⟩) 1 1,.slice (some ⟨w3.heap.size,0,none⟩) 1 1] 28) (Lr _);have kn:=Hn (w3.alloc (.cells #[Iz 3,.bool false,Iz 0,.string (vtS v),Sn,Sn] 28)) (.cells #[Iz 5,.bool false,Iz 0,.string ⟨#[]⟩,.slice (some ⟨w2.heap.size,0,none⟩) 1 1,.slice (some ⟨w3.heap.size,0,none⟩) 1 1] 28);have zi:(w3.alloc (.cells #[Iz 3,.bool false,Iz 0,.string (vtS v),Sn,Sn] 28)).heap.size=w3.heap.size+1:=by simp
 have sb:=b3.size;have sb2:=bs.size;have szs:(w2.alloc (.cells #[.string ⟨#[118]⟩] 9)).heap.size=w2.heap.size+1:=by simp
 have s3:=hb3.size;have bW:=bi.trans (bn.mono bi.size);have bWW:=b3.trans (bW.mono b3.size);have on2:=fG (fG on hb3) bW;have oi2:=fG oi bn;clear on oi;obtain ⟨W,hW⟩:∃W,W=(w3.alloc (.cells #[Iz 3,.bool false,Iz 0,.string (vtS v),Sn,Sn] 28)).alloc (.cells #[Iz 5,.bool false,Iz 0,.string ⟨#[]⟩,.slice (some ⟨w2.heap.size,0,none⟩) 1 1,.slice (some ⟨w3.heap.size,0,none⟩) 1 1] 28):=⟨_,rfl⟩;rw [←hW] at bW bWW on2 oi2 kn ⊢;have hkk:∀ {b:Nat} {o:Obj},w1.heap[b]?=some o→W.heap[b]?=some o:=fun {b o} hh=>(bWW.block _ (Ll (Aa hh) hz2)).trans ((hb2.block _ (Aa hh)).trans hh)
 have V0:VSt 28 9 d S w W (w3.heap.size+1) (Nc x a1 l1 c1 a2 l2 c2) (.slice (some ⟨w2.heap.size,0,none⟩) 1 1) (.slice (some ⟨w3.heap.size,0,none⟩) 1 1) [sV] [([Iz 3,.bool false,Iz 0,.string (vtS v),Sn,Sn],tN (vtS v))]:=by
  refine ⟨hkk K2.o,hkk K0.o,by rw [zi] at kn;exact kn,by omega,⟨on2,fun s hs=>?_⟩,by simpa [cF] using oi2,?_,?_,?_,fun y hy=>?_,B1.o.trans ((hb2.trans (bWW.mono hz2)).mono B1.o.size)⟩
  ·cases At.1 hs;decide
  ·intro e;have:=Ab (show some w2.heap.size=some (w3.heap.size+1) from e);omega
  ·intro e;have:=Ab (show some w3.heap.size=some (w3.heap.size+1) from e);omega
  ·intro b e e';have:=Ab (show some w2.heap.size=some b from e);have:=Ab (show some w3.heap.size=some b from e');omega
  ·cases At.1 hy
   exact (cC S W 3 false 0 (vtS v) (by unfold maxLen;omega)).deeper hd
 clear on2 oi2 kn bW bWW bi bn b3 bs hkk hW zi sb sb2 szs s3 hz2 hb2 hb3;generalize w3.heap.size+1=gb at V0 ⊢;generalize Value.slice (some ⟨w2.heap.size,0,none⟩) 1 1=vn0 at V0 ⊢;generalize Value.slice (some ⟨w3.heap.size,0,none⟩) 1 1=vi0 at V0 ⊢;have cW:=aA V0.val;have VV:=Hh V0;have hl1:l1=x.names.length:=by obtain ⟨_,_,e,-⟩:=HNS.o;cases e;rfl
 have hl2:l2=x.items.length:=by obtain ⟨_,_,e,-⟩:=HIS.o;cases e;rfl
 subst hl1 hl2;have hln:=HL.o.1;have hli:=HL.o.2.1;clear V0
 go_upto_region 4 with fail
 clear cW
 go_loopw [23] (fun i wr=>∃j:Nat,i=Iz j∧j≤x.names.length∧∃ (vn vi:Value) (ns:List Bt) (A:List NC),VSt 28 9 d S w wr gb [Iz x.kind,.bool x.bool,Iz x.num,.string x.text,.slice a1 x.names.length c1,.slice a2 x.items.length c2] vn vi ns A∧ns=sV::(cK (x.names.take j) (x.items.take j)).map (·.1)∧aE A=tN (vtS v)::(cK (x.names.take j) (x.items.take j)).map (·.2)) (fun i _=>x.names.length - (intOf i).toNat)
 case atStart=>exact ⟨0,rfl,Ax _,_,_,_,_,VV.o,rfl,rfl⟩
 case round=>
  clear VV;obtain ⟨j,rfl,hj,vn,vi,ns,A,hst,hns,hA⟩:=hrel;have hkl:=lX (x.names.take j) (x.items.take j);have hlt0:(x.items.take j).length≤x.items.length:=by rw [Ba];exact Nat.min_le_right _ _
  have hnl:ns.length≤1000001:=by rw [hns,Ag,Bi];omega
  have hAl:A.length≤1000001:=by
   have:=Ad List.length hA;rw [aE,Bi,Ag,Bi] at this;omega
  clear hkl hlt0
  by_cases hlt:j<x.names.length
  ·have hlt':(j:Int)<(x.names.length:Int):=by omega
   have hj0:(0:Int)≤(j:Int):=by omega
   have hji:j<x.items.length:=by have:=HLEN.o;omega
   have hlt2:(j:Int)<(x.items.length:Int):=by have:=HLEN.o;omega
   have hjm:(x.names.length:Int)≤1000000:=by omega
   have HLT:=Hh hlt;obtain ⟨s,hsn⟩:∃s,x.names[j]?=some s:=⟨_,Ac hlt⟩;obtain ⟨bq,oq,rfl,hSq,hcq⟩:=HNS.o.get hsn;have hsq:=HNS.o.sizes s (Aq hsn);obtain ⟨-,-,-,b,off,y,b1,m1,n1,b2,m2,n2,rfl,hSb,hx,hnd,q0,q1,q2,q3,q4,q5⟩:=HIS.o.at hji;have hke:=XB hsn hx;have hB:=hst.bel;have rq:=(hB.cell (p:=⟨bq,oq+j,none⟩) (HS.o _ hSq)).trans hcq;have ck:=aA hst.nod;have HST:=Hh hst;have HNSE:=Hh hns;have HA:=Hh hA;have HKE:=Hh hke;have HND:=Hh hnd;have Q:=Hh (Ai q0 (Ai q1 (Ai q2 (Ai q3 (Ai q4 q5)))));clear hsn hke hB hcq hst hns hA hnd q0 q1 q2 q3 q4 q5 hx
   by_cases hsv:s=sV
   ·have e1:(s.toList == [118])=true:=by rw [←SG];exact lV hsv
    have HSV:=Hh hsv;clear hsv
    go_wp2
    go_roundw
    case rel=>exact ⟨j+1,by go_num,by have:=HLT.o;omega,vn,vi,ns,A,HST.o,by rw [HKE.o,Am HSV.o,Bu];exact HNSE.o,by rw [HKE.o,Am HSV.o,Bu];exact HA.o⟩
    case measure=>have:=HLT.o;simp [intOf];omega
   ·have e1:(s.toList == [118])=false:=by rw [←SG];exact iD hsv
    have HSV:=Hh hsv;clear hsv;obtain ⟨⟨an,cn,rfl⟩,ai,ci,rfl⟩:=HST.o.forms
    go_upto_region 7 with fail
    have b7:=(Br wr.heap.size wr).alloc (o:=.cells #[.string s] 9) (Lr _);have hP7:=HST.o.below b7 HS.o;have HP7:=Hh hP7;have cn7:=gC wr #[.string s] 9 [.string s] rfl;have HN7:=Hh cn7;have HO7:=Hh hP7.names.1;have hbs7:w.heap.size+3≤(wr.alloc (.cells #[.string s] 9)).heap.size:=by have:=Aa hP7.res;omega
    have HBS7:=Hh hbs7;obtain ⟨iq,hiq,hy0,hy1,hy2⟩:=qC;obtain ⟨ip,hip,hz0,hz1,hz2⟩:=qD;have HIQ:=Hh hiq;have HIP:=Hh hip;have hus:=underlying25;have hug:=underlying26;clear b7 hP7 cn7 hbs7 hiq hip
    go_upto_region 8 with ((refine Bk _ rfl (.tmp 31) (.tmp 33) 25 rfl (w.heap.size+3) 9 iq (.string ⟨#[]⟩) 1 16 hus HIQ.o hy0 hy1 hy2 rfl (by decide) (.slice an ns.length cn) ns.length _ rfl HO7.o ⟨wr.heap.size,0,none⟩ 1 1 [.string s] rfl rfl HN7.o (by intro u hu;simp at hu;subst hu;rfl) (by decide) (by unfold maxLen;omega) (by omega) HBS7.o _ rfl ?_);intro gg cc W8 hown hgrow hat hltg;(have hk8:=(hgrow.block gb (Aa HP7.o.nod) (fun e=>HP7.o.s1 e.symm)).trans HP7.o.nod);(have hf8:=aD hk8);(have hd8:=aA hk8);(have hP8a:=HP7.o.name HS.o hown hgrow (fK hat) hsq);clear hown hgrow hat hk8)
    clear hf8 hd8 HO7 HN7 HBS7 HP7 ck;generalize W8.setCell ⟨gb,4,none⟩ (.slice (some ⟨gg,0,none⟩) (ns.length+1) cc)=w8a at hP8a ⊢;have bd:Below w8a.heap.size w8a w8a.drew:=(Br _ _).drew;have hP8:=hP8a.below bd HS.o;have HP8:=Hh hP8;have CK:=Hh (fun (wx:World) (hb:Below w8a.heap.size w8a wx)=>Ai (aA ((hb.block _ (Aa hP8a.nod)).trans hP8a.nod)).2.2.2.2.2 (Ai (aA ((hb.block _ (Aa hP8a.val)).trans hP8a.val)).2.2.2.2.2 (show _∧_∧_∧_∧_∧_ from ⟨((hP8a.bel.trans (hb.mono hP8a.bel.size)).cell (p:=⟨b,off+j * 6,none⟩) (HS.o _ hSb)).trans Q.o.1,((hP8a.bel.trans (hb.mono hP8a.bel.size)).cell (p:=⟨b,off+j * 6+1,none⟩) (HS.o _ hSb)).trans Q.o.2.1,((hP8a.bel.trans (hb.mono hP8a.bel.size)).cell (p:=⟨b,off+j * 6+2,none⟩) (HS.o _ hSb)).trans Q.o.2.2.1,((hP8a.bel.trans (hb.mono hP8a.bel.size)).cell (p:=⟨b,off+j * 6+3,none⟩) (HS.o _ hSb)).trans Q.o.2.2.2.1,((hP8a.bel.trans (hb.mono hP8a.bel.size)).cell (p:=⟨b,off+j * 6+4,none⟩) (HS.o _ hSb)).trans Q.o.2.2.2.2.1,((hP8a.bel.trans (hb.mono hP8a.bel.size)).cell (p:=⟨b,off+j * 6+5,none⟩) (HS.o _ hSb)).trans Q.o.2.2.2.2.2⟩)))
    clear hP8a hP8;refine aJ (fun w'=>w'.cell? ⟨gb,5,none⟩=some (.slice ai A.length ci)∧w'.cell? ⟨w.heap.size,5,none⟩=some (.slice (some ⟨b,off,none⟩) x.items.length c2)∧(w'.cell? ⟨b,off+j * 6,none⟩=some (Iz y.kind)∧w'.cell? ⟨b,off+j * 6+1,none⟩=some (.bool y.bool)∧w'.cell? ⟨b,off+j * 6+2,none⟩=some (Iz y.num)∧w'.cell? ⟨b,off+j * 6+3,none⟩=some (.string y.text)∧w'.cell? ⟨b,off+j * 6+4,none⟩=some (.slice b1 m1 n1)∧w'.cell? ⟨b,off+j * 6+5,none⟩=some (.slice b2 m2 n2))) [1,3,6] (.take 0 (.take 1 (.take 2 (.take 3 (.take 4 (.take 5 (.take 6 (.ask 7 true (.ask 8 false (.take 9 (.ask 10 false .stop .stop)) .stop) .stop)))))))) (by kernel_rfl) (by kernel_rfl) (fun _ d _ _ _ h=>by cases d <;> exact h) (CK.o _ bd) ?_
    generalize w8a.drew=wd at bd HP8 ⊢;refine aG _ ?_ rfl rfl ?_ (fun K hK=>?_);rotate_left;(intro w0;go_simp;(try rfl));(go_simp;refine hK _ ?_;clear hK K)
    refine aN _ ?_ rfl rfl (by decide) ?_ (fun K hK=>?_);rotate_left;(intro w0 hw0;go_simp;(try rfl));(go_simp;refine hK _ ?_;clear hK K)
    refine aG _ ?_ rfl rfl ?_ (fun K hK=>?_);rotate_left;(intro w0;go_simp;(try rfl));(go_simp;refine hK _ ?_;clear hK K)
    refine aN _ ?_ rfl rfl (by decide) ?_ (fun K hK=>?_);rotate_left;(intro w0 hw0;go_simp;(try rfl));(go_simp;refine hK _ ?_;clear hK K)
    iterate 2 (refine aG _ ?_ rfl rfl ?_ (fun K hK=>?_);rotate_left;(intro w0;go_simp;(try rfl));(go_simp;refine hK _ ?_;clear hK K))
    refine aN _ ?_ rfl rfl (by decide) ?_ (fun K hK=>?_);rotate_left;(intro w0 hw0;go_simp;(try rfl));(go_simp;refine hK _ ?_;clear hK K)
    have b9:=(Br wd.heap.size wd).alloc (o:=.cells (Na y b1 m1 n1 b2 m2 n2) 28) (Lr _);have hP9:=HP8.o.below b9 HS.o;have HP9:=Hh hP9;have HN9:=Hh (gC wd (Na y b1 m1 n1 b2 m2 n2) 28 (Nc y b1 m1 n1 b2 m2 n2) rfl);have HO9:=Hh hP9.items;have hbs9:w.heap.size+3≤(wd.alloc (.cells (Na y b1 m1 n1 b2 m2 n2) 28)).heap.size:=by have:=Aa hP9.res;omega
    have HBS9:=Hh hbs9;have HVW:=Hh (HND.o.same (w':=wd.alloc (.cells (Na y b1 m1 n1 b2 m2 n2) 28)) fun b hb=>hP9.bel.block b (HS.o b hb))
    have HONE:=Hh HND.o.one;have ck9:=CK.o _ (bd.trans (b9.mono bd.size));clear b9 hP9 hbs9;refine aI _ rfl trivial ?_
    go_wp2_with fail
    generalize wd.alloc _=w9 at HP9 HN9 HO9 HBS9 HVW ck9 ⊢;refine Seg.mk ⟨ck9,?_⟩;refine aF _ rfl trivial ?_
    go_wp2_with ((refine Bk _ rfl (.tmp 37) (.tmp 43) 26 rfl (w.heap.size+3) 28 ip (.agg Z6) 6 88 hug HIP.o hz0 hz1 hz2 rfl (by decide) (.slice ai A.length ci) A.length _ rfl HO9.o ⟨wd.heap.size,0,none⟩ 1 1 (Nc y b1 m1 n1 b2 m2 n2) rfl rfl HN9.o HONE.o (by decide) (by unfold maxLen;omega) (by omega) HBS9.o _ rfl ?_);intro g2 cc2 W9 hown hgrow hat hlt9;(have hk8:=(hgrow.block gb (Aa HP9.o.nod) (fun e=>HP9.o.s2 e.symm)).trans HP9.o.nod);(have hf8:=aD hk8);(have hd8:=aA hk8);(have hPF:=HP9.o.item HS.o hown hgrow (fK hat) HVW.o);clear hown hgrow hat hk8)
    clear HO9 HN9 HBS9 HP9 HONE HVW HP8 ck9;refine Seg.mk ?_;refine aG _ ?_ rfl rfl ?_ (fun K hK=>?_);rotate_left;(intro w0;go_simp;(try rfl));(go_simp;refine hK _ ?_;clear hK K)
    refine cG _ rfl trivial ?_;have HPF:=Hh hPF;clear hPF
    go_wp2
    go_roundw
    case rel=>exact ⟨j+1,by go_num,by have:=HLT.o;omega,_,_,_,_,HPF.o,by rw [HKE.o,Af HSV.o,HNSE.o];simp,by rw [HKE.o,Af HSV.o,Dx,←Bm,←HA.o];simp [aE]⟩
    case measure=>have:=HLT.o;simp [intOf];omega
  ·have hlt':¬ (j:Int)<(x.names.length:Int):=by omega
   have hjl:j=x.names.length:=by omega
   rw [hjl,List.take_length,HLEN.o,List.take_length] at hns hA;have q1:=aA hst.nod;have q2:=aA (show wr.heap[w.heap.size+1+1]?=_ from hst.res)
   have q3:=aD (show wr.heap[w.heap.size+1+1]?=_ from hst.res)
   have HST:=Hh hst;have HNSE:=Hh hns;have HA:=Hh hA;clear hns hA hst hjl;obtain ⟨⟨an,cn,rfl⟩,ai,ci,rfl⟩:=HST.o.forms;obtain ⟨Ln,hLn⟩:∃n,n=ns.length:=⟨_,rfl⟩;obtain ⟨Li,hLi⟩:∃n,n=A.length:=⟨_,rfl⟩;rw [←hLn,←hLi] at HST q1;have hres:wr.heap[w.heap.size+1+1]?=some (.cells Z6 28 (0,0)):=HST.o.res;obtain ⟨gr,hgz⟩:∃g,g=w.heap.size+1+1:=⟨_,rfl⟩;rw [←hgz] at q2 q3 hres;rw [←hgz];have HRS:=Hh hres;have HGZ:=Hh hgz;have HLN:=Hh hLn;have HLI:=Hh hLi;clear hres hgz hLn hLi
   go_wp2
   have hput:=dB HRS.o (Iz 5) (.bool false) (Iz 0) (.string ⟨#[]⟩) (.slice an Ln cn) (.slice ai Li ci);have hgf:=aM wr gr (Iz 5) (.bool false) (Iz 0) (.string ⟨#[]⟩) (.slice an Ln cn) (.slice ai Li ci);refine Ar (v:=.agg #[Iz 5,.bool false,Iz 0,.string ⟨#[]⟩,.slice an Ln cn,.slice ai Li ci]) ?_ ?_ ?_;rotate_left
   ·rfl
   ·have hb:=HST.o.bel
    have hgz:=HGZ.o;have hlo:=HST.o.lo;have hnd:=HST.o;have hS:=HS.o;have hLn:=HLN.o;have hLi:=HLI.o;clear HLN HLI;subst hLn hLi;refine ⟨_,_,rfl,?_,hb.grown hgf hb.size (fun g e=>by have:=Ab (show some gr=some g from e);omega)⟩
    have hSB:∀b,(b<wr.heap.size∧b ≠ gr)→(dE wr gr (Iz 5) (.bool false) (Iz 0) (.string ⟨#[]⟩) (.slice an ns.length cn) (.slice ai A.length ci)).heap[b]?=wr.heap[b]?:=fun b hb=>hgf.block b hb.1 (by intro e;exact hb.2 (Ab e))
    have hN:aC (d+1) (fun b=>b<wr.heap.size∧b ≠ gr) wr [Iz 5,.bool false,Iz 0,.string ⟨#[]⟩,.slice an ns.length cn,.slice ai A.length ci] (.mk 5 false 0 ⟨#[]⟩ ns (aE A)):=by
     have h6:∀y,y ∈ A→y.1.length=6:=fun y hy=>(hnd.old y hy).len
     have hkb:∀b,S b→b<wr.heap.size∧b ≠ gr:=fun b hb=>⟨Ll (hS b hb) hnd.bel.size,by have:=hS b hb;omega⟩
     refine ⟨_,_,rfl,Ax _,hnd.names.strs.mono fun b hb=>⟨hb.2,by have:=hb.1;omega⟩,?_⟩
     have hl:(aE A).length=A.length:=by simp [aE]
     have h1:=hnd.items;rcases h1.2 with ⟨e,hA0⟩ | ⟨g,cap,cur,e,hbg,hg,hnc,hcm,hcs,hcu⟩
     ·have hn:A=[]:=Au.1 hA0
      subst hn;rw [e];exact cB.nil _ _ _
     ·cases e
      refine ⟨_,ci,by rw [show (ND.mk 5 false 0 ⟨#[]⟩ ns (aE A)).items=aE A from rfl,hl],by rw [show (ND.mk 5 false 0 ⟨#[]⟩ ns (aE A)).items=aE A from rfl,hl];exact hnc,hcm,fun j x hj=>?_⟩
      have hj2:(aE A)[j]?=some x:=hj;have hj':j<A.length:=by have:=dH hj2;omega
      have e:A[j]?=some (A[j].1,A[j].2):=by rw [Ac hj']
      have hx:x=A[j].2:=by
       rw [aE,Bc,e] at hj2;exact (Ab hj2).symm
      subst hx;refine ⟨g,0,A[j].1,rfl,⟨Aa hg,by omega⟩,fun f u hu=>?_,(hnd.old _ (Do hj')).mono hkb⟩
      have:=h1.cells (g:=g) rfl _ _ (jL h6 e f u hu);rw [Bn,←Nat.add_assoc] at this;exact this
    have hW:bI x (vtS v)=.mk 5 false 0 ⟨#[]⟩ ns (aE A):=by rw [HNSE.o,HA.o];rfl
    rw [hW];exact (hN.same hSB).mono fun b hb=>Ll hb.1 hgf.size
   ·have s0:=JO HRS.o (Iz 5)
    have s1:=JN s0 (.bool false);have s2:=JM s1 (Iz 0);have s3:=JL s2 (.string ⟨#[]⟩);have s4:=lI s3 (.slice an Ln cn);have s5:=kD s4 (.slice ai Li ci);have r0:=(aA s0).1;have r1:=(aA s1).2.1;have r2:=(aA s2).2.2.1;have r3:=(aA s3).2.2.2.1;have r4:=(aA s4).2.2.2.2.1;have r5:=(aA s5).2.2.2.2.2;obtain ⟨q0,q1,q2,q3,q4,q5⟩:=aA s5;simp [results,results46,go_sem,q0,q1,q2,q3,q4,q5,r0,r1,r2,r3,r4,r5]
end Go.Proofs.YtncdpanfefnjlaaGreatDoor