import Derived.Test.YtncdpanfefnjlaaGreatDoorHashe
import Derived.Test.YtncdpanfefnjlaaGreatDoorLst
import Derived.Test.YtncdpanfefnjlaaGreatDoorVgt
set_option linter.unusedVariables false
set_option linter.unusedSimpArgs false
set_option maxHeartbeats 6400000
set_option maxRecDepth 100000
namespace Go.Proofs.YtncdpanfefnjlaaGreatDoor
open Go.Proofs.Tryz
open Go Go.Maps Go.ChangeShapes Go.WideShapes Go.ChangeAt Go.RowKit
theorem aCp {l:Ub} {j:Nat} {v:VD} (hj:j≤24) (hl:j+17≤l.length) (hf:dZ l 25 0=dZ l (25 - j) j) (hp:eO ((l.drop j).take 17)=some v):dZ l 25 0=some (v,j):=by
 rw [hf,show 25 - j=(24 - j)+1 by omega,dZ,Am hl,hp]
theorem XW {l:Ub} {j:Nat} (hj:j≤24) (hl:j+17≤l.length) (hf:dZ l 25 0=dZ l (25 - j) j) (hp:eO ((l.drop j).take 17)=none):dZ l 25 0=dZ l (25 - (j+1)) (j+1):=by
 rw [hf,show 25 - j=(24 - j)+1 by omega,dZ,Am hl,hp,show 25 - (j+1)=24 - j by omega]
theorem aCq {l:Ub} {j:Nat} (h:j=25∨l.length<j+17) (hf:dZ l 25 0=dZ l (25 - j) j):dZ l 25 0=none:=by
 rw [hf];rcases Cc j 25 with h1 | h1
 ·rw [show 25 - j=(24 - j)+1 by omega,dZ,Af (by omega)]
 ·rw [show 25 - j=0 by omega];rfl
theorem TG {l:Ub} (h:dZ l 25 0=none):fdV l=v0∧fdP l=0∧fdE l=10:=by
 unfold fdV fdP fdE;rw [h];exact ⟨rfl,rfl,rfl⟩
theorem TF {l:Ub} {v:VD} {j:Nat} (h:dZ l 25 0=some (v,j)):fdV l=v∧fdP l=(j:Int)∧fdE l=0:=by
 unfold fdV fdP fdE;rw [h];exact ⟨rfl,rfl,rfl⟩
theorem aAd (l:Ub):(∃v,eO l=some v∧pvV l=v∧pvE l=0)∨(eO l=none∧pvV l=v0∧pvE l=10):=by
 unfold pvV pvE;cases eO l with
 | none=>exact .inr ⟨rfl,rfl,rfl⟩
 | some v=>exact .inl ⟨v,rfl,rfl,rfl⟩
def aEm (s:Bt) (w:World) (e:Ending) (w':World):Prop:=e=.returned (.tuple #[.agg (vcs (fdV s.data.toList)),Iz (fdP s.data.toList),Iz (fdE s.data.toList)])∧Below w.heap.size w w'
theorem CR {f:Func} {Q:Ending→World→Prop} {a:Act} {w:World} {g c s s2:Nat} {x0 x1 x2 x3 x4 v v2 y0 y1 y2 y3 y4:Value} (h:w.heap[g]?=some (.cells #[y0,y1,y2,y3,y4] 58 (0,0))) (hres:f.results=#[.cell c 58,.tmp s,.tmp s2]) (hc:a.tmps.getD c undef=.pointer (some ⟨g,0,none⟩)) (hs:a.tmps.getD s undef=v) (hs2:a.tmps.getD s2 undef=v2) (hd:a.defers=[])
 (hQ:Q (.returned (.tuple #[.agg #[x0,x1,x2,x3,x4],v,v2])) (OE w g x0 x1 x2 x3 x4)):bodyPost prog f Q .ret a (OE w g x0 x1 x2 x3 x4):=by
 refine Ar (v:=.tuple #[.agg #[x0,x1,x2,x3,x4],v,v2]) ?_ hd hQ;obtain ⟨q0,q1,q2,q3,q4⟩:=dM (zV h x0 x1 x2 x3 x4);obtain ⟨tm,df⟩:=a;simp only [Array.getD_eq_getD_getElem?] at hc hs hs2;simp [results,hres,go_sem,hc,hs,hs2,q0,q1,q2,q3,q4]
theorem UL (s:Bt) (w:World) (hs:s.size≤1000000) (hT:DB w) (hE:AP w):Calls prog 27 #[.string s] w (aEm s w):=by
 have hl:s.data.toList.length=s.size:=by rw [Ah];rfl
 have PA:Hid (∀ (t:Bt) (wx:World),Below w.heap.size w wx→Calls prog 51 #[.string t] wx (GR t wx)):=Hh fun t wx hb=>NR t wx (hT.below hb) (hE.below hb)
 have HL:=Hh hl;clear hT hE hl
 go_enter func27,ntmps27
 go_upto_region 1 with fail
 generalize ae:w.alloc _=w1;obtain ⟨b0,k0⟩:=Al ae;clear ae;have HW:Hid (PW w w1):=Hh ⟨k0,b0⟩;clear b0 k0
 go_upto_region 2 with fail
 obtain ⟨M,hM⟩:∃M:Int,M=min 24 ((s.size:Int) - 17)+1:=⟨_,rfl⟩;rw [←hM];have HM:Hid (M≤25∧(∀j:Nat,(j:Int)<M→j≤24∧j+17≤s.size)∧∀j:Nat,¬ (j:Int)<M→j=0∨(j:Int)≤M→j=25∨s.size<j+17):=Hh ⟨by omega,fun j h=>by omega,fun j h k=>by omega⟩
 have hM25:M≤25:=HM.o.1;clear hM
 go_loopw [5,6,7,13] (fun _ _ _ vc wr=>∃j:Nat,vc=Iz (j:Int)∧(j=0∨(j:Int)≤M)∧Hid (dZ s.data.toList 25 0=dZ s.data.toList (25 - j) j)∧PW w wr) (fun _ _ _ vc _=>26 - (intOf vc).toNat)
 case atStart=>exact ⟨0,rfl,.inl rfl,Hh rfl,HW.o⟩
 case round=>
  obtain ⟨j,rfl,hjM,hfd,hW⟩:=hrel
  by_cases hj:(j:Int)<M
  ·obtain ⟨h24,h17⟩:=HM.o.2.1 j hj
   have HJ:=Hh (Ai h24 h17);have hsl:(j:Int)+17≤(s.size:Int):=by omega
   have hj0:(0:Int)≤(j:Int):=by omega
   have hj25:(j:Int)<25:=by omega
   have P1:Hid (Calls prog 51 #[.string (s.extract j (j+17))] wr (GR (s.extract j (j+17)) wr)):=Hh (PA.o _ wr hW.2);unfold GR at P1;have el:(s.extract j (j+17)).data.toList=(s.data.toList.drop j).take 17:=by rw [kZ,show j+17 - j=17 by omega]
   rw [el] at P1;have HP:=Hh (aAd ((s.data.toList.drop j).take 17));generalize pvE ((s.data.toList.drop j).take 17)=E at P1 HP;generalize pvV ((s.data.toList.drop j).take 17)=V at P1 HP;unfold vcs at P1;have HW2:=Hh hW;clear el hW h24 h17
   go_upto_region 5 with ((with_reducible refine (P1.o).mono ?_);rintro e w2 ⟨rfl,hb2⟩)
   have HW3:=Hh (HW2.o.step hb2);generalize ae:w2.alloc _=w4;obtain ⟨b4,k4⟩:=Al ae;clear ae;have hW4:=HW3.o.step b4;have c4:=dM k4;have f4:=lA hW4.1;have d4:=dM hW4.1;have HW4:=Hh hW4;have hg4:w.heap.size<w2.heap.size:=Aa HW3.o.1;generalize w2.heap.size=g4 at c4 hg4 ⊢;clear hb2 HW2 HW3 b4 k4 hW4 P1 hg4;rcases HP.o with ⟨v,hv,rfl,rfl⟩ | ⟨hv,rfl,rfl⟩
   ·have HF:=Hh (TF (aCp HJ.o.1 (by rw [HL.o];exact HJ.o.2) hfd.o hv))
    clear HP hv hfd
    go_wp2
    refine CR (x0:=.string V.p) (x1:=Iz V.a) (x2:=Iz V.b) (x3:=Iz V.f) (x4:=Iz V.z) (v:=Iz (j:Int)) (v2:=Iz 0) HW4.o.1 rfl rfl rfl rfl rfl ?_;exact ⟨by rw [HF.o.1,HF.o.2.1,HF.o.2.2];rfl,HW4.o.2.grown (iJ _ _ _ _ _ _ _) HW4.o.2.size (fun k hk=>by cases hk;exact Lr _)⟩
   ·have HF:=Hh (XW HJ.o.1 (by rw [HL.o];exact HJ.o.2) hfd.o hv)
    have hjM2:(j:Int)+1≤M:=by omega
    clear HP hv hfd
    go_wp2
    go_roundw
    case rel=>exact ⟨j+1,by go_num,.inr (by omega),HF,HW4.o⟩
    case measure=>simp [intOf];omega
  ·have HF:=Hh (TG (aCq (by have:=HM.o.2.2 j hj hjM;rw [HL.o];exact this) hfd.o))
   have f4:=lA hW.1;have d4:=dM hW.1;have HW4:=Hh hW;clear hfd hW hjM
   go_wp2
   refine CR (x0:=.string ⟨#[]⟩) (x1:=Iz 0) (x2:=Iz 0) (x3:=Iz 0) (x4:=Iz 0) (v:=Iz 0) (v2:=Iz 10) HW4.o.1 rfl rfl rfl rfl rfl ?_;exact ⟨by rw [HF.o.1,HF.o.2.1,HF.o.2.2];rfl,HW4.o.2.grown (iJ _ _ _ _ _ _ _) HW4.o.2.size (fun k hk=>by cases hk;exact Lr _)⟩
end Go.Proofs.YtncdpanfefnjlaaGreatDoor
namespace Go.Proofs.YtncdpanfefnjlaaGreatDoor
open Go.Proofs.Tryz
open Go
theorem aDk {l:Ub} {j:Nat} {c:UInt8} (hc:l[j]?=some c) (hn:c.toNat<65∨90<c.toNat):eO ((l.drop j).take 17)=none:=by
 refine VL (RD (i:=0) (c:=c) ?_ (by omega))
 rw [Df,Am (by decide),Df,Am (by decide),List.getElem?_drop]
 exact hc
theorem aGh {pre rest:Ub} {v:VD} (hv:aU v=true) (hp:pre.length≤24) (hn:∀c,c ∈ pre→c.toNat<65∨90<c.toNat):dZ (pre++(fH v++rest)) 25 0=some (v,pre.length):=by
 have hl:(pre++(fH v++rest)).length=pre.length+(17+rest.length):=by rw [Lg,Lg,fS hv]
 have h:=zW (pre++(fH v++rest)) pre.length (25 - pre.length) 0 (fun j _ hj=>by
  have hj':j<pre.length:=by omega
  exact aDk (c:=pre[j]) (by rw [Cq hj',Ac hj']) (hn _ (Do hj'))) (by omega)
 rw [show pre.length+(25 - pre.length)=25 by omega] at h
 rw [h,show 25 - pre.length=(24 - pre.length)+1 by omega,dZ,Am (by omega),Bv,List.drop_left,List.take_append_of_le_length (by rw [fS hv];exact Lr _),Ao (by rw [fS hv];exact Lr _),yX hv]
theorem IE {α β:Type}:∀L:List (α × β),(L.map (·.1)).zip (L.map (·.2))=L
 | []=>rfl
 | (a,b)::L=>by simpa using IE L
theorem XA (n:ND) (t:Bt):cK (bI n t).names (bI n t).items=cK n.names n.items:=by
 have e:cK (bI n t).names (bI n t).items=List.filter (fun q=>decide (q.1 ≠ sV)) ((sV,tN t)::((cK n.names n.items).map (·.1)).zip ((cK n.names n.items).map (·.2))):=rfl
 rw [e,IE,List.filter_cons_of_neg (by simp)]
 unfold cK;rw [List.filter_filter];simp
theorem tL (n:ND) (t u:Bt):bI (bI n t) u=bI n u:=by
 have h:=XA n t;have e:bI (bI n t) u=.mk 5 false 0 ⟨#[]⟩ (sV::(cK (bI n t).names (bI n t).items).map (·.1)) (tN u::(cK (bI n t).names (bI n t).items).map (·.2)):=rfl;rw [e,h]
 rfl
theorem XV (n:ND) (p:Bt) (k:Int):vfZ (aW n p k) p k=vfZ n p k∧aW (aW n p k) p k=aW n p k:=by
 have e1:vfZ (aW n p k) p k=vfZ n p k:=by
  have:bI (aW n p k) (eV p k 0)=bI n (eV p k 0):=tL n _ _;unfold vfZ;rw [this]
 refine ⟨e1,?_⟩;have e2:aW (aW n p k) p k=bI (aW n p k) (eV p k (vfZ (aW n p k) p k)):=rfl;rw [e2,e1];exact tL n _ _
structure AS (n:ND) (p:Bt) (k:Int):Prop where
 e1:fM n p k=0
 kit:FoK k (aW n p k)
 draft:FoK k (bI n (eV p k 0))
 ok:AT (aW n p k)
 e2:fM (aW n p k) p k=0
 again:aW (aW n p k) p k=aW n p k
 size:((foS k (aW n p k)).size:Int)=vfZ n p k
 val:aU ⟨p,1,0,k,vfZ n p k⟩=true
 cost:bG 8 (aW n p k)≤65000
theorem aCl {n:ND} {p:Bt} {k:Int} (hw:eF 8 n=true) (hc:bG 8 n≤64800) (h5:n.kind=5) (hl:n.items.length≤255) (hv:aU ⟨p,1,0,k,0⟩=true):AS n p k:=by
 have h8:=dU hw;have F:AT n:=⟨eZ hw,by omega⟩
 have hk:=lX n.names n.items;have hkl:(cK n.names n.items).length+1≤256:=by omega
 have hm:cH 7 n:=(bY h5).1 h8;have c0:=qI (q:=6) hm.len hv;have v0:aB 8 (bI n (eV p k 0))=true:=(bY rfl).2 (xQ hm (by decide) (tM hv) hkl)
 have hk13:1≤k∧k≤3:=by have:=(dA hv).2.1;simp only at this;omega
 have D0:FoK k (bI n (eV p k 0)):=⟨hk13.1,hk13.2,v0,gK F.1,by have:=YX (k:=k) v0 (gK F.1);have c0':bG 8 (bI n (eV p k 0))≤bG 8 n+141:=c0;omega⟩
 rcases uL n p k (fun _ _=>F.1) with ⟨f1,-⟩ | ⟨-,f2,-⟩ | ⟨er,f3,-,-,-,-,f4,-⟩ | ⟨-,-,-,-,f5,f6,f7,f8,f9⟩
 ·rw [hv] at f1;cases f1
 ·exact absurd ⟨h5,h8⟩ f2
 ·rw [D0.err.1] at f4
  rcases f3 with ⟨-,rfl⟩ | ⟨-,rfl⟩ <;> cases f4
 ·refine ⟨f9,f7,f5,⟨gK F.1,?_⟩,?_,(XV n p k).2,by rw [f8];rfl,f6,?_⟩
  ·have c1:=qI (q:=6) hm.len f6
   exact Ae (show bG 8 (aW n p k)≤bG 8 n+141 from c1) (by omega)
  ·have e:fM (aW n p k) p k=if aU ⟨p,1,0,k,0⟩ then (if (aW n p k).kind=5∧aB 8 (aW n p k)=true then foE k (bI (aW n p k) (eV p k 0)) else 1) else 2:=rfl
   rw [e,hv,Am rfl,Am ⟨rfl,f7.valid⟩,show bI (aW n p k) (eV p k 0)=bI n (eV p k 0) from tL n _ _]
   exact f5.err.1
  ·have c1:=qI (q:=6) hm.len f6
   exact Ae (show bG 8 (aW n p k)≤bG 8 n+141 from c1) (by omega)
theorem AS.find {n:ND} {p:Bt} {k:Int} (h:AS n p k) (hl:n.items.length≤14):∃hd r:Ub,hd.length≤6∧(foS k (aW n p k)).data.toList=hd++(fH ⟨p,1,0,k,vfZ n p k⟩++r)∧dZ (foS k (aW n p k)).data.toList 25 0=some (⟨p,1,0,k,vfZ n p k⟩,hd.length):=by
 have hk:=lX n.names n.items;obtain ⟨hd,r,hn,h6,hf⟩:=IU k n (by omega)
 have e':(foS k (aW n p k)).data.toList=hd++(fH ⟨p,1,0,k,vfZ n p k⟩++r):=by rw [h.kit.err.2];exact hf _ h.val
 refine ⟨hd,r,h6,e',?_⟩;rw [e'];exact aGh h.val (by omega) (hn (by omega))
def aJu:Ub:=List.replicate 44 35
def iK:Bt:=⟨aJu.toArray⟩
def aHw (s:Bt):Bt:=⟨(qM s.data.toList).toArray⟩
def rD (s:Bt):Bt:=qA 1 (aHw s)
def eS (t:Bt):Prop:=t.size=44∧∀c,c ∈ t.data.toList→35≤c.toNat∧c.toNat≤122∧c.toNat ≠ 92
theorem mO:eS iK:=⟨rfl,fun c hc=>by have:=List.eq_of_mem_replicate (show c ∈ List.replicate 44 35 from hc);subst this;decide⟩
theorem CA (s:Bt):(aHw s).size=32:=by show (qM s.data.toList).toArray.size=32;rw [Du,nZ]
theorem LW (s:Bt):(rD s).data.toList=xZ 1 (qM s.data.toList):=by
 unfold rD qA;rw [Am ⟨by decide,CA s⟩]
 rfl
theorem lC (s:Bt):eS (rD s):=by
 have hl:=LW s;have hz:(rD s).size=44:=by
  rw [←aIk,hl];exact EL 1 (by decide) (by decide) _ (nZ _)
 refine ⟨hz,fun c hc=>?_⟩
 rw [hl] at hc;have h:sZ (xZ 1 (qM s.data.toList))=true:=by
  have h1:sZ (lR (List.replicate 1 0++qM s.data.toList))=true:=EC 11 _ (by rw [Lg,nZ];rfl)
  have h2:sZ ((lR (List.replicate 1 0++qM s.data.toList)).drop 1)=true:=by
   unfold sZ at h1 ⊢;rw [Aw] at h1 ⊢;exact fun x hx=>h1 x (List.mem_of_mem_drop hx)
  show sZ ([69]++(lR (List.replicate 1 0++qM s.data.toList)).drop 1)=true
  rw [wJ,h2]
  decide
 unfold sZ at h;rw [Aw] at h;have hv:=Ch (h c hc);have:∀k:Fin 256,aEy k.1 ≠ 0→35≤k.1∧k.1≤122∧k.1 ≠ 92:=by decide +kernel
 exact this ⟨c.toNat,c.toNat_lt⟩ hv
theorem aCz (s:Bt):∃r,(rD s).data.toList=69::r:=⟨_,(LW s).trans rfl⟩
theorem sG {t:Bt} (h:eS t):aV t=true:=by
 unfold aV;have hl:t.data.toList.length=t.size:=by rw [Ah];rfl
 rw [h.1,Lib.validD_ascii t.data.toList.length t.data.toList (fun c hc=>by have:=h.2 c (List.mem_of_mem_take hc);omega),List.drop_length]
 rfl
theorem mV {l:Ub} (h:∀c,c ∈ l→35≤c.toNat∧c.toNat≤122∧c.toNat ≠ 92):bH l=34::(l++[34]):=by
 have e:l.flatMap gE=l:=by
  induction l with
  | nil=>rfl
  | cons c t ih=>
   rw [Co,ih fun c hc=>h c (by simp [hc])]
   have hj:gE c=[c]:=by
    have:∀k:Fin 256,35≤k.1→k.1≤122→k.1 ≠ 92→gE (UInt8.ofNat k.1)=[UInt8.ofNat k.1]:=by decide +kernel
    have hc:=h c (by simp)
    have:=this ⟨c.toNat,c.toNat_lt⟩ hc.1 hc.2.1 hc.2.2
    rwa [show UInt8.ofNat c.toNat=c from Dj] at this
   rw [hj];rfl
 unfold bH;rw [e]
def wrD (k:Int) (d:Nat) (x:ND):Ub:=if k=1 then aT d x else if k=2 then bJ d x else bL d x
theorem VH {a b:Bt} (ha:eS a) (hb:eS b) (k:Int):(wrD k 7 (tN a)).length=(wrD k 7 (tN b)).length:=by
 have la:a.data.toList.length=44:=by rw [Ah];exact ha.1
 have lb:b.data.toList.length=44:=by rw [Ah];exact hb.1
 unfold wrD
 split
 ·show (bH a.data.toList).length=(bH b.data.toList).length
  rw [mV ha.2,mV hb.2];simp only [Ag,Lg,la,lb]
 ·split
  ·show (eA 3 a.size++a.data.toList).length=(eA 3 b.size++b.data.toList).length
   rw [ha.1,hb.1,Lg,Lg,la,lb]
  ·show (cZ (kL a.size) a.size++a.data.toList).length=(cZ (kL b.size) b.size++b.data.toList).length
   rw [ha.1,hb.1,Lg,Lg,la,lb]
theorem fP {α β γ δ:Type} (F:β→γ→δ) (a:α→β) (b:α→γ):∀L:List α,List.zipWith F (L.map a) (L.map b)=L.map fun q=>F (a q) (b q)
 | []=>rfl
 | q::L=>by rw [Bj,Bj,Bg,fP F a b L];rfl
theorem CM {α:Type} (f g:α→Ub):∀L:List α,(∀q,q ∈ L→(f q).length=(g q).length)→(dV (L.map f)).length=(dV (L.map g)).length
 | [],_=>rfl
 | [q],h=>h q (by simp)
 | q::r::L,h=>by
  have ih:=CM f g (r::L) fun x hx=>h x (by simp [hx])
  have hq:=h q (by simp)
  show (f q++44::dV ((r::L).map f)).length=(g q++44::dV ((r::L).map g)).length
  rw [Lg,Lg,Ag,Ag,ih,hq]
theorem zT {α:Type} (f g:α→Ub):∀L:List α,(∀q,q ∈ L→(f q).length=(g q).length)→(L.map f).flatten.length=(L.map g).flatten.length
 | [],_=>rfl
 | q::L,h=>by
  have ih:=zT f g L fun x hx=>h x (by simp [hx])
  rw [Bj,Bj,Bp,Bp,Lg,Lg,ih,h q (by simp)]
theorem aHr {k:Int} {B:AL} {f g:Bt × ND→Bt × ND} (hf:∀q,(f q).1=q.1) (hg:∀q,(g q).1=q.1) (h:∀q,q ∈ B→(wrD k 7 (f q).2).length=(wrD k 7 (g q).2).length):(wrL k (mkA (B.map f))).length=(wrL k (mkA (B.map g))).length:=by
 have key:∀f:Bt × ND→Bt × ND,(∀q,(f q).1=q.1)→mkA (B.map f)=.mk 5 false 0 ⟨#[]⟩ (B.map (·.1)) (B.map fun q=>(f q).2):=fun f hf=>by
  unfold mkA bK;rw [Dc,Dc]
  congr 1
  exact Cr fun q _=>hf q
 rw [key f hf,key g hg];clear key;unfold wrD at h;unfold wrL
 split
 ·rename_i hk
  simp only [hk,if_true] at h
  show (123::(dV (List.zipWith (fun s y=>bH s.data.toList++58::aT 7 y) (B.map (·.1)) (B.map fun q=>(f q).2))++[125])).length=(123::(dV (List.zipWith (fun s y=>bH s.data.toList++58::aT 7 y) (B.map (·.1)) (B.map fun q=>(g q).2))++[125])).length
  rw [fP,fP,Ag,Ag,Lg,Lg,CM (fun q=>bH q.1.data.toList++58::aT 7 (f q).2) (fun q=>bH q.1.data.toList++58::aT 7 (g q).2) B fun q hq=>by simp only [Lg,Ag,h q hq]]
 ·rename_i hk
  simp only [hk,if_false] at h
  split
  ·rename_i hk2
   simp only [hk2,if_true] at h
   show (eA 5 (B.map fun q=>(f q).2).length++(List.zipWith (fun s y=>fY s++bJ 7 y) (B.map (·.1)) (B.map fun q=>(f q).2)).flatten).length=(eA 5 (B.map fun q=>(g q).2).length++(List.zipWith (fun s y=>fY s++bJ 7 y) (B.map (·.1)) (B.map fun q=>(g q).2)).flatten).length
   rw [fP,fP,Bi,Bi,Lg,Lg,zT (fun q=>fY q.1++bJ 7 (f q).2) (fun q=>fY q.1++bJ 7 (g q).2) B fun q hq=>by simp only [Lg,h q hq]]
  ·rename_i hk2
   simp only [hk2,if_false] at h
   show (cZ (mB (B.map fun q=>(f q).2).length) (B.map fun q=>(f q).2).length++(List.zipWith (fun s y=>gT s++bL 7 y) (B.map (·.1)) (B.map fun q=>(f q).2)).flatten).length=(cZ (mB (B.map fun q=>(g q).2).length) (B.map fun q=>(g q).2).length++(List.zipWith (fun s y=>gT s++bL 7 y) (B.map (·.1)) (B.map fun q=>(g q).2)).flatten).length
   rw [fP,fP,Bi,Bi,Lg,Lg,zT (fun q=>gT q.1++bL 7 (f q).2) (fun q=>gT q.1++bL 7 (g q).2) B fun q hq=>by simp only [Lg,h q hq]]
theorem oG (L:AL) (ls:List Bt) (y:ND):fI (L.map (dR ls y))=(fI L).map (dR ls y):=by
 unfold fI;rw [List.filter_map]
 congr 1
 refine List.filter_congr fun q _=>?_
 show decide ((dR ls y q).1 ≠ sV)=_
 rw [iV]
theorem YZ {L:AL} {ls:List Bt} {a b t:Bt} (hn:(bK L).Nodup) (ha:eS a) (hb:eS b) (hv:sV ∉ ls) (k:Int):(wrL k (bI (bQ (mkA L) ls a) t)).length=(wrL k (bI (bQ (mkA L) ls b) t)).length:=by
 have key:∀a:Bt,bI (bQ (mkA L) ls a) t=mkA (((sV,tN t)::fI (eW L ls)).map (dR ls (tN a))):=fun a=>by
  rw [rW hn,rN,lY,oG,Bj]
  congr 2
  unfold dR;rw [Af hv]
 rw [key a,key b];refine aHr (iV _ _) (iV _ _) fun q _=>?_
 unfold dR
 split
 ·exact VH ha hb k
 ·rfl
theorem XU {n:ND} {ls:List Bt} {a b p:Bt} {k:Int} (h:cH 7 n) (ha:eS a) (hb:eS b) (hv:sV ∉ ls) (hn:aO 8 n=true):fM (bQ n ls a) p k=fM (bQ n ls b) p k∧(fM (bQ n ls a) p k=0→vfZ (bQ n ls a) p k=vfZ (bQ n ls b) p k):=by
 have hnd:(bK (dN n)).Nodup:=by rw [sN h];exact h.nodup
 have hN:n=mkA (dN n):=FJ h;have hmk:cH 7 (mkA (dN n)):=by rw [←hN];exact h
 have va:∀c,eS c→(aB 8 (bQ n ls c)=true↔(eW (dN n) ls).length≤256∧∀l,l ∈ ls→aV l=true):=fun c hc=>by
  rw [fB h,←EP hmk (sG hc)];exact bY rfl
 have k5:∀c,(bQ n ls c).kind=5:=fun c=>by rw [fB h];rfl
 cases hvv:aU ⟨p,1,0,k,0⟩ with
 | false=>
  have:∀c,fM (bQ n ls c) p k=2:=fun c=>by unfold fM;rw [hvv];rfl
  rw [this a,this b];exact ⟨rfl,fun g=>by cases g⟩
 | true=>
  have hk:1≤k∧k≤3:=by
   have:=(dA hvv).2.1;simp only at this;omega
  by_cases hval:(eW (dN n) ls).length≤256∧∀l,l ∈ ls→aV l=true
  ·have eq1:∀c,eS c→fM (bQ n ls c) p k=foE k (bI (bQ n ls c) (eV p k 0)):=fun c hc=>by
    unfold fM;rw [hvv,Am rfl,Am ⟨k5 c,(va c hc).2 hval⟩]
   have hlen:=fun t=>YZ (L:=dN n) (ls:=ls) (t:=t) hnd ha hb hv k
   rw [←hN] at hlen;have mok:∀c,eS c→cH 7 (bQ n ls c):=fun c hc=>(bY (k5 c)).1 ((va c hc).2 hval)
   have hkl:∀c,eS c→(cK (bQ n ls c).names (bQ n ls c).items).length=(fI (eW (dN n) ls)).length:=fun c hc=>by
    have:=jB (bQ n ls c) ⟨#[]⟩;rw [fB h]
    show (fI ((bK _).zip (List.map _ _))).length=_
    rw [xF];unfold lY;rw [oG,Bi]
   have wval:∀c,eS c→(aB 8 (bI (bQ n ls c) (eV p k 0))=true↔(fI (eW (dN n) ls)).length+1≤256):=fun c hc=>by
    constructor
    ·intro g
     have:=BS g
     rwa [hkl c hc] at this
    ·intro g
     exact (bY rfl).2 (xQ (mok c hc) (by decide) (tM hvv) (by rw [hkl c hc];exact g))
   rw [eq1 a ha,eq1 b hb]
   by_cases hw:(fI (eW (dN n) ls)).length+1≤256
   ·have hva:=(wval a ha).2 hw
    have hvb:=(wval b hb).2 hw;have hl:=hlen (eV p k 0)
    by_cases hlong:65536<(wrL k (bI (bQ n ls a) (eV p k 0))).length
    ·rw [GB hk.1 hk.2 hva hlong,GB hk.1 hk.2 hvb (by rwa [hl] at hlong)]
     exact ⟨rfl,fun g=>by cases g⟩
    ·have na:∀c,aO 8 (bQ n ls c)=true:=fun c=>by
      rw [fB h,cJ,Ak,Aw];refine ⟨show dD 0=true by decide,fun y hy=>?_⟩
      obtain ⟨q,hq,rfl⟩:=Bl.1 hy;obtain ⟨q',hq',rfl⟩:=Bl.1 hq;unfold dR
      split
      ·rw [cJ];rfl
      ·rename_i hnl
       obtain ⟨r,e,-,hr⟩:=kF ls (dN n);rw [e] at hq';rcases Bb.1 hq' with hq' | hq'
       ·rw [cJ,Ak,Aw] at hn
        exact hn.2 _ (List.of_mem_zip hq').2
       ·exact absurd (hr q' hq').1 hnl
     have fa:FoK k (bI (bQ n ls a) (eV p k 0)):=⟨hk.1,hk.2,hva,gK (na a),by omega⟩
     have fb:FoK k (bI (bQ n ls b) (eV p k 0)):=⟨hk.1,hk.2,hvb,gK (na b),by omega⟩
     refine ⟨by rw [fa.err.1,fb.err.1],fun _=>?_⟩
     unfold vfZ;rw [fa.size,fb.size,hl]
   ·have hva:aB 8 (bI (bQ n ls a) (eV p k 0))=false:=by cases g:aB 8 (bI (bQ n ls a) (eV p k 0)) with | false=>rfl | true=>exact absurd ((wval a ha).1 g) hw
    have hvb:aB 8 (bI (bQ n ls b) (eV p k 0))=false:=by cases g:aB 8 (bI (bQ n ls b) (eV p k 0)) with | false=>rfl | true=>exact absurd ((wval b hb).1 g) hw
    rw [QK hk.1 hk.2 hva,QK hk.1 hk.2 hvb];exact ⟨rfl,fun g=>by cases g⟩
  ·have:∀c,eS c→fM (bQ n ls c) p k=1:=fun c hc=>by
    unfold fM;rw [hvv,Am rfl,Af fun g=>hval ((va c hc).1 g.2)]
   rw [this a ha,this b hb];exact ⟨rfl,fun g=>by cases g⟩
def spE (n:ND) (ls:List Bt) (p:Bt) (k:Int):Int:=if ls=[]∨sV ∈ ls∨aU ⟨p,1,0,k,0⟩=false then 2 else if n.kind=5∧aB 8 n=true then fM (bQ n ls iK) p k else 1
def spD (n:ND) (ls:List Bt) (p:Bt) (k:Int):Bt:=rD (mC (bQ n ls iK) p k)
def spM (n:ND) (ls:List Bt) (p:Bt) (k:Int):ND:=bQ n ls (spD n ls p k)
def spX (n:ND) (ls:List Bt) (p:Bt) (k:Int):ND:=if spE n ls p k=0 then aW (spM n ls p k) p k else nd0
def spS (n:ND) (ls:List Bt) (p:Bt) (k:Int):Bt:=if spE n ls p k=0 then foS k (aW (spM n ls p k) p k) else ⟨#[]⟩
theorem rV (n:ND) (ls:List Bt) (p:Bt) (k:Int) (hn:aB 8 n=true→aO 8 n=true):((ls=[]∨sV ∈ ls∨aU ⟨p,1,0,k,0⟩=false)∧spE n ls p k=2)∨(ls ≠ []∧sV ∉ ls∧aU ⟨p,1,0,k,0⟩=true∧¬ (n.kind=5∧aB 8 n=true)∧spE n ls p k=1)
 ∨ (ls ≠ []∧sV ∉ ls∧aU ⟨p,1,0,k,0⟩=true∧cH 7 n∧aO 8 n=true∧spE n ls p k=fM (bQ n ls iK) p k∧fM (spM n ls p k) p k=fM (bQ n ls iK) p k):=by
 by_cases h:ls=[]∨sV ∈ ls∨aU ⟨p,1,0,k,0⟩=false
 ·exact .inl ⟨h,by unfold spE;rw [Am h]⟩
 ·have h1:ls ≠ []:=fun e=>h (.inl e)
  have h2:sV ∉ ls:=fun e=>h (.inr (.inl e))
  have h3:aU ⟨p,1,0,k,0⟩=true:=by cases e:aU ⟨p,1,0,k,0⟩ with | true=>rfl | false=>exact absurd (.inr (.inr e)) h
  by_cases hv:n.kind=5∧aB 8 n=true
  ·have hm:cH 7 n:=(bY hv.1).1 hv.2
   exact .inr (.inr ⟨h1,h2,h3,hm,hn hv.2,by unfold spE;rw [Af h,Am hv],(XU hm (lC _) mO h2 (hn hv.2)).1⟩)
  ·exact .inr (.inl ⟨h1,h2,h3,hv,by unfold spE;rw [Af h,Af hv]⟩)
end Go.Proofs.YtncdpanfefnjlaaGreatDoor
namespace Go.Proofs.YtncdpanfefnjlaaGreatDoor
open Go.Proofs.Tryz
open Go Go.ChangeShapes Go.WideShapes Go.ChangeAt Go.RowKit
theorem aGc {ns:List Bt} {s:Bt}:(s ∈ ns∧∃i:Nat,BC ns s=(i:Int)∧ns[i]?=some s)∨(s ∉ ns∧BC ns s=-1):=by
 unfold BC;cases h:ns.findIdx? (fun t=>decide (t=s)) with
 | some i=>exact .inl ⟨Aq (fD h).1,i,rfl,(fD h).1⟩
 | none=>exact .inr ⟨nE h,rfl⟩
theorem UW {S:Nat→Prop} (v:Value) (ns:List Bt) (s:Bt) (w:World) (h:bE S w v ns):Calls prog 21 #[v,.string s] w fun e w'=>e=.returned (.bool (decide (s ∈ ns)))∧w=w':=by
 have IX:=Hh (zO v ns s w h);clear h;rcases aGc (ns:=ns) (s:=s) with ⟨hm,i,hi,-⟩ | ⟨hm,hi⟩
 ·rw [hi] at IX
  rw [An hm];have h0:(0:Int)≤(i:Int):=by omega
  clear hm hi
  go_enter func21,ntmps21
  go_wp2_with (go_at_call 42;(with_reducible refine (IX.o).mono ?_);rintro e w2 ⟨rfl,rfl⟩)
  go_ret
  exact ⟨rfl,rfl⟩
 ·rw [hi] at IX
  rw [Ap hm];clear hm hi
  go_enter func21,ntmps21
  go_wp2_with (go_at_call 42;(with_reducible refine (IX.o).mono ?_);rintro e w2 ⟨rfl,rfl⟩)
  go_ret
  exact ⟨rfl,rfl⟩
theorem QG (p:Bt) (k:Int) (hk:wI k) (w:World):Calls prog 22 #[.string p,Iz k] w fun e w'=>e=.returned (.bool (aU ⟨p,1,0,k,0⟩))∧Below w.heap.size w w':=by
 have VV:Hid (Calls prog 43 #[.agg #[.string p,Iz 1,Iz 0,Iz k,Iz 0]] w fun e w'=>e=.returned (.bool (aU ⟨p,1,0,k,0⟩))∧Below w.heap.size w w'):=Hh (qJ ⟨p,1,0,k,0⟩ w ⟨show wI 1 from by unfold wI;omega,show wI 0 from by unfold wI;omega,hk,show wI 0 from by unfold wI;omega⟩)
 clear hk;generalize aU ⟨p,1,0,k,0⟩=b at VV ⊢
 go_enter func22,ntmps22
 go_wp2_with (go_at_call 43;(with_reducible refine (VV.o).mono ?_);rintro e w2 ⟨rfl,hb⟩)
 go_ret
 exact ⟨rfl,hb⟩
theorem DS (w:World) (hL:Lay w):Calls prog 16 #[] w fun e w'=>e=.returned (.string iK)∧Below w.heap.size w w':=by
 have SZ:=Hh (MV 1 w hL);rw [show CE 1=44 from rfl] at SZ
 have RE:Hid (∀wx:World,Calls prog 33 #[.string ⟨#[35]⟩,Iz 44] wx fun e w'=>e=.returned (.string iK)∧Below wx.heap.size wx w'):=Hh (fun wx=>by
  have:=Any.strings_Repeat IZ ZH ⟨#[35]⟩ 44 wx (by omega) (by show 1 * 44≤_;omega)
  rw [show (⟨#[35]⟩:Bt).data.toList=[35] from rfl,show Lib.repeatL [35] 44=aJu from rfl] at this
  exact this)
 clear hL
 go_enter func16,ntmps16
 go_wp2_with (first
  | (go_at_call 34;(with_reducible refine (SZ.o).mono ?_);rintro e w2 ⟨rfl,hb⟩)
  | (go_at_call 33;(with_reducible refine (RE.o _).mono ?_);rintro e w3 ⟨rfl,hb3⟩))
 go_ret
 exact ⟨rfl,hb.trans (hb3.mono hb.size)⟩
theorem QS (s:Bt) (w:World) (hs:s.size≤1099511627776) (hT:GP w) (hL:Lay w):Calls prog 18 #[.string s] w fun e w'=>e=.returned (.string (rD s))∧Below w.heap.size w w':=by
 have SU:=Hh (aFf s w hs hT);have MK:Hid (∀wx:World,Below w.heap.size w wx→Calls prog 38 #[Iz 1,.string ⟨(qM s.data.toList).toArray⟩] wx fun e w'=>e=.returned (.string (rD s))∧Below wx.heap.size wx w'):=Hh (fun wx hb=>UC 1 (aHw s) wx (by rw [CA];decide) (hL.go hb))
 generalize (⟨(qM s.data.toList).toArray⟩:Bt)=q at SU MK;generalize rD s=d at MK ⊢;clear hs hT hL
 go_enter func18,ntmps18
 go_wp2_with (first
  | (go_at_call 39;(with_reducible refine (SU.o).mono ?_);rintro e w2 ⟨rfl,hb⟩)
  | (go_at_call 38;(with_reducible refine (MK.o _ hb).mono ?_);rintro e w3 ⟨rfl,hb3⟩))
 go_ret
 exact ⟨rfl,hb.trans (hb3.mono hb.size)⟩
theorem bE.cells {S:Nat→Prop} {w:World} {a:Addr} {l cap:Nat} {ns:List Bt} (h:bE S w (.slice (some a) l cap) ns):l=ns.length∧∀j u,(ns.map Value.string)[j]?=some u→w.cell? (a.add j)=some u:=by
 obtain ⟨ao,cap',e,h1,h2,h3⟩:=h;cases e;refine ⟨rfl,fun j u hj=>?_⟩
 rw [Bc] at hj;obtain ⟨s,hs,rfl⟩:=Option.map_eq_some_iff.1 hj;obtain ⟨b,off,e,-,hc,-⟩:=h3 j s hs;cases e;rw [Bn];exact hc
theorem QY {S:Nat→Prop} (v:Value) (ns:List Bt) (w:World) (h:bE S w v ns) (hl:ns.length≤1000000):Calls prog 48 #[v] w fun e w'=>∃v':Value,e=.returned v'∧jH 9 w.heap.size w' v' ns∧Below w.heap.size w w':=by
 obtain ⟨ip,hip,hz0,hz1,hz2⟩:=qC;have hug:=underlying25;have HI:=Hh hip;have HSZ:Hid (∀s,s ∈ ns→s.size≤maxLen - 2):=Hh fun s hs=>h.sizes s hs
 clear hip;obtain ⟨ao,cap,e1,p1,p2,p3⟩:=id h;subst e1;unfold maxLen at p2;have hq:=fun (wx:World)=>Lib.run_eql_slice_nil (P:=prog) wx 25
 cases ao with
 | none=>
  have he:ns=[]:=by
   cases ns with
   | nil=>rfl
   | cons x t=>obtain ⟨_,_,h,_⟩:=p3 0 x rfl;cases h
  subst he;clear h p3
  go_enter func48,ntmps48
  go_wp2
  go_ret
  exact ⟨_,rfl,⟨Dr _ _ _ _,HSZ.o⟩,Br _ _⟩
 | some a=>
  obtain ⟨-,hc⟩:=h.cells;have b1:=(Br w.heap.size w).alloc (o:=.cells #[] 9) (Lr _);have hO:=World.ownsRow_lit (base:=w.heap.size) (size:=1) (e:=9) w #[] 0 (Lr _) (by decide) rfl
  have hone:∀u ∈ ns.map Value.string,u.oneCell'=true:=by
   intro u hu;obtain ⟨y,hy,rfl⟩:=Bl.1 hu
   rfl
  have hlt:∀j u,(ns.map Value.string)[j]?=some u→(w.alloc (.cells #[] 9)).cell? (a.add j)=some u:=fun j u hj=>(b1.cell (cD (hc j u hj))).trans (hc j u hj)
  have HO:=Hh hO;have HLT:=Hh hlt;have HONE:=Hh hone;have B1:=Hh b1;have hs1:=b1.size;clear h p3 hc hO hone hlt b1
  go_enter func48,ntmps48
  go_wp2_with ((refine wpList_append_own_at _ rfl (.tmp 5) (.tmp 6) 25 rfl w.heap.size 9 ip (.string ⟨#[]⟩) 1 16 hug HI.o hz0 hz1 hz2 rfl (by decide) (.slice (some ⟨w.heap.size,0,none⟩) 0 0) 0 [] rfl HO.o a ns.length cap (ns.map Value.string) rfl (by rw [Bi,Nat.mul_one]) HLT.o HONE.o (by unfold maxLen;omega) (by omega) hs1 ?_);intro v' w2 hown hgrow hx1 hx2)
  go_ret
  refine ⟨_,rfl,⟨?_,HSZ.o⟩,?_⟩
  ·simpa using hown
  ·exact FG B1.o HO.o hgrow hs1
end Go.Proofs.YtncdpanfefnjlaaGreatDoor