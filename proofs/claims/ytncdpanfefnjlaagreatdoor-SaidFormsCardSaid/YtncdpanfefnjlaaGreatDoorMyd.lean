import Derived.Test.YtncdpanfefnjlaaGreatDoorMpe
set_option linter.unusedVariables false
set_option linter.unusedSimpArgs false
set_option maxHeartbeats 800000
set_option maxRecDepth 100000
namespace Go.Proofs.YtncdpanfefnjlaaGreatDoor
open Go.Proofs.Tryz
open Go Go.ChangeShapes Go.WideShapes Go.ChangeAt Go.RowKit
theorem OG {l:Ub} {p:Nat} {c:UInt8} (h:l[p]?=some c):l.drop p=c::l.drop (p+1):=by
 have a:p<l.length:=dT h;rw [List.drop_eq_getElem_cons a];rw [Ac a] at h;rw [Ab h]
theorem aJp (N c:Nat) (a:N * 256<18446744073709551616) (b:c<256):bits BinOp.or IntKind.u64 ((N:Int) * 256) (c:Int)=((N * 256+c:Nat):Int):=by
 have e:((N:Int) * 256)=((N * 256:Nat):Int):=by omega
 rw [e,u64_or_nat _ _ a (by omega),Nat.or_comm,←u64_or_nat _ _ (by omega) a]
 have h:=u64_or8 (y:=(c:Int)) (x:=((N * 256:Nat):Int)) (by omega) (by omega) (by omega) (by omega) (by omega)
 rw [show bits BinOp.or IntKind.u64 (c:Int) ((N * 256:Nat):Int)=_ from h]
 omega
theorem FZ (l:Ub) (c:UInt8):gM (l++[c])=gM l * 256+c.toNat:=by unfold gM;rw [List.foldl_append];rfl
theorem nX:∀l:Ub,gM l<256 ^ l.length
 | []=>by simp [gM]
 | c::t=>by
  have a:=nX t;have d:=c.toNat_lt;rw [GA,Ag,Dz];have b:c.toNat * 256 ^ t.length≤255 * 256 ^ t.length:=Nat.mul_le_mul_right _ (by omega)
  omega
theorem eV {N:Nat} (h:N<18446744073709551616):(eW N<24∧eC N=0∧N=eW N)∨(24≤eW N∧eW N≤27∧eC N=2 ^ (eW N - 24)∧N<256 ^ eC N):=by
 unfold eW eC
 (repeat' split) <;> first
  | (left;omega)
  | (right;refine ⟨by decide,by decide,by decide,?_⟩;simp only [Nat.reducePow];omega)
theorem RZ {l:Ub} {p:Nat} {c:UInt8} (e:l[p]?=some c) {M N:Nat} {t:Ub} (f:M<8) (h:l.drop p=cR M N++t):c.toNat / 32=M∧c.toNat % 32=eW N∧l.drop (p+1)=bR N (eC N)++t:=by
 rw [OG e] at h;unfold cR at h;rw [Bo] at h;obtain ⟨a,d⟩:=List.cons.inj h;have b:=Ad UInt8.toNat a;rw [Bb] at b;have:=BC N;exact ⟨by omega,by omega,d⟩
def mpS (x:ND):Bt:=if aC 8 x then (if 65536<(aW 8 x).length then ⟨#[]⟩ else bC (aW 8 x)) else ⟨#[]⟩
def mpE (x:ND):Int:=if aC 8 x then (if 65536<(aW 8 x).length then 3 else 0) else 1
theorem tJ {x:ND} (h:aC 8 x=false):mpS x=⟨#[]⟩∧mpE x=1:=by unfold mpS mpE;rw [h];exact ⟨rfl,rfl⟩
theorem qF {x:ND} (h:aC 8 x=true) (a:65536<(aW 8 x).length):mpS x=⟨#[]⟩∧mpE x=3:=by unfold mpS mpE;rw [h,Am rfl,Am rfl,Am a,Am a];exact ⟨rfl,rfl⟩
theorem mW {x:ND} (h:aC 8 x=true) (a:¬65536<(aW 8 x).length):mpS x=bC (aW 8 x)∧mpE x=0:=by unfold mpS mpE;rw [h,Am rfl,Am rfl,Ae a,Ae a];exact ⟨rfl,rfl⟩
theorem XY (x:ND):(mpS x).size≤65536:=by
 unfold mpS
 split
 ·split
  ·exact Av _
  ·rw [bY];omega
 ·exact Av _
def ON (x:ND) (w:World) (e:Ending) (w':World):Prop:=e=.returned (.tuple #[.string (mpS x),Iz (mpE x)])∧Below w.heap.size w w'
theorem XW {D:Nat} {S:Nat→Prop} (Q:Vl) (x:ND) (w:World) (h:aD D S w Q x) (F:∀b,S b→b<w.heap.size) (U:iM D x) (Y:aC 8 x=true→aP 8 x=true∧(aW 8 x).length≤35184372088832) (X:jR w):Calls prog 37 #[.agg Q.toArray] w (ON x w):=by
 obtain ⟨H,J,c1,K,G,c2,rfl⟩:=h.slices;have u:=(Br w.heap.size w).alloc (o:=.cells (Na x H J c1 K G c2) 28) (Lr _);have M:=aA (Hn w (.cells (Na x H J c1 K G c2) 28));have n:w.heap.size<(w.alloc (.cells (Na x H J c1 K G c2) 28)).heap.size:=by simp
 obtain ⟨R,a⟩:∃W,W=w.alloc (.cells (Na x H J c1 K G c2) 28):=⟨_,rfl⟩;rw [←a] at u M n;have V:=Hh (jF _ x R (h.same fun b r=>u.block b (F b r)) (fun b r=>Ll (F b r) u.size) U (X.below u))
 have I:=Hh u;have t:=Hh M;have Z:=Hh h;have T:=Hh F;have HW:=Hh Y;have WL:=Hh n;clear h F U Y X u n;cases hv:aC 8 x with
 | false=>
  rw [hv] at V;obtain ⟨g,k⟩:=tJ hv;have i:=Hh (Ai g k);clear hv g k
  go_enter func37,ntmps37
  go_upto_region 1 with fail
  rw [←a];clear a
  go_wp2_with (go_at_call 32;(with_reducible refine (V.o).mono ?_);rintro e L ⟨rfl,c⟩)
  go_ret2
  exact ⟨by rw [i.o.1,i.o.2];rfl,I.o.trans (c.mono I.o.size)⟩
 | true=>
  rw [hv] at V;obtain ⟨A,j⟩:=HW.o hv;have O:=Hh hv;have P:=Hh A;have C:=Hh j;clear hv A j
  go_enter func37,ntmps37
  go_upto_region 1 with fail
  rw [←a];clear a
  go_upto_region 3 with ((with_reducible refine (V.o).mono ?_);rintro e L ⟨rfl,c⟩)
  have d:=I.o.trans (c.mono I.o.size);have l:∀q v,R.cell? ⟨w.heap.size,q,none⟩=some v→L.cell? ⟨w.heap.size,q,none⟩=some v:=fun q v hq=>(c.cell (p:=⟨w.heap.size,q,none⟩) WL.o).trans hq
  have d0:=l 0 _ t.o.1;have d1:=l 1 _ t.o.2.1;have d2:=l 2 _ t.o.2.2.1;have d3:=l 3 _ t.o.2.2.2.1;have d4:=l 4 _ t.o.2.2.2.2.1;have d5:=l 5 _ t.o.2.2.2.2.2;have N:=Hh (wP 8 D S _ x L (Z.o.same fun b r=>d.block b (T.o b r)) (fun b r=>Ll (T.o b r) d.size) O.o P.o C.o)
  obtain ⟨s,E⟩:∃s:Bt,s=bC (aW 8 x):=⟨_,rfl⟩;rw [←E] at N;have B:s.size=(aW 8 x).length:=by rw [E,bY]
  have f:=Hh d;clear M l c d
  by_cases z:65536<s.size
  ·have y:(65536:Int)<(s.size:Int):=by omega
   obtain ⟨g,k⟩:=qF O.o (by omega)
   have i:=Hh (Ai g k);clear g k E B z
   go_wp2_with (go_at_call 69;(with_reducible refine (N.o).mono ?_);rintro e w3 ⟨rfl,m⟩)
   go_ret2
   exact ⟨by rw [i.o.1,i.o.2];rfl,f.o.trans (m.mono f.o.size)⟩
  ·have y:¬ (65536:Int)<(s.size:Int):=by omega
   obtain ⟨g,k⟩:=mW O.o (by omega)
   have i:=Hh (Ai (g.trans E.symm) k);clear g k E B z
   go_wp2_with (go_at_call 69;(with_reducible refine (N.o).mono ?_);rintro e w3 ⟨rfl,m⟩)
   go_ret2
   exact ⟨by rw [i.o.1,i.o.2];rfl,f.o.trans (m.mono f.o.size)⟩
theorem QS (s:Bt):(eR s).length≤6 * s.size+8:=by
 have a:s.data.toList.length=s.size:=by rw [Ah];rfl
 unfold eR cH;rw [Lg,Ag,aQ,a];unfold gU
 (repeat' split) <;> dsimp only <;> omega
theorem JX {W:ND→Ub} {c:ND→Nat}:∀ (ns:List Bt) (its:List ND),(∀y,y ∈ its→(W y).length≤c y)→(List.zipWith (fun s y=>eR s++W y) ns its).flatten.length≤(ns.map fun s=>6 * s.size+8).sum+(its.map fun y=>c y+1).sum
 | [],_,_=>by simp
 | _::_,[],_=>by simp
 | s::ss,y::ys,h=>by
  have b:=JX ss ys (fun z a=>h z (by simp [a]))
  have d:=QS s;have e:=h y (by simp)
  rw [Bh,Bv,Lg,Lg,Bq,Cy,Bq,Cy];omega
theorem aBy (x:ND):(pHd x).2≤8:=by
 unfold pHd gS gU oG kR
 (repeat' split) <;> dsimp only <;> omega
theorem oJ:∀ (d:Nat) (x:ND),aC d x=true→(aW d x).length≤bK d x
 | 0,_,h=>by cases h
 | d+1,x,h=>by
  obtain ⟨c,l,e,b⟩:=aX h;have a:∀y,y ∈ x.items→(aW d y).length≤bK d y:=fun y f=>oJ d y (c y f)
  have g:x.text.data.toList.length=x.text.size:=by rw [Ah];rfl
  have j:=nS (v:=lD x) (aBy x);have i:=vM x.items a;have k:=JX (W:=aW d) x.names x.items a;rw [fR,gB,Lg];unfold lA
  split
  ·omega
  ·split
   ·omega
   ·split
    ·omega
    ·simp;omega
def aFw (v:Nat):Prop:=(128≤v∧v<192)∨v=217∨v=218∨v=219∨v=220∨v=222
instance (v:Nat):Decidable (aFw v):=by unfold aFw;infer_instance
theorem aAf (l:Ub) (k:Nat) (e:k≤4):gM (l.take k)<4294967296:=by
 have b:=nX (l.take k);have a:(l.take k).length≤4:=by rw [Bc];omega
 have c:(256:Nat) ^ (l.take k).length≤256 ^ 4:=Ch (by decide) a
 have d:(256:Nat) ^ 4=4294967296:=by decide
 omega
end Go.Proofs.YtncdpanfefnjlaaGreatDoor
namespace Go.Proofs.YtncdpanfefnjlaaGreatDoor
open Go.Proofs.Tryz
def MIs (d:Nat) (l:Ub) (p:Nat) (y:ND) (t:Ub):Prop:=aC d y=true∧aP d y=true∧l.drop p=aW d y++t
def aHh (l:Ub) (p v:Nat):Nat:=gM ((l.drop (p+1)).take (eX v))
theorem aLg {d:Nat} {l:Ub} {p:Nat} {c:UInt8} (k:l[p]?=some c) {y:ND} {t:Ub} (h:MIs (d+1) l p y t):c.toNat=(pHd y).1∧mP c.toNat=y.kind∧p+1+eX c.toNat≤l.length∧fB c.toNat (aHh l p c.toNat)=iC y∧aHh l p c.toNat=lD y % 256 ^ eX c.toNat∧lA (aW d) y++t=l.drop (p+1+eX c.toNat):=by
 obtain ⟨n,o,e⟩:=h;obtain ⟨s,q,b,m⟩:=yD n o;rw [gB,Aj,OG k] at e;unfold cH at e;rw [Bo] at e;obtain ⟨g,f⟩:=List.cons.inj e;have g:=Ad UInt8.toNat g;rw [Bb] at g;have a:c.toNat=(pHd y).1:=by omega
 have u:=dT k;have r:=Ad List.length f;rw [Ce,Lg,aQ] at r;have i:(bR (lD y) (pHd y).2).length=(pHd y).2:=aQ _ _;have j:aHh l p c.toNat=lD y % 256 ^ (pHd y).2:=by
  unfold aHh;rw [a,b,f,List.take_left' i,jB]
 refine ⟨a,by rw [a,q],by rw [a,b];omega,by rw [j,a,m],by rw [j,a,b],?_⟩
 rw [a,b,←List.drop_drop,f,List.drop_left' i]
theorem vE {d:Nat} {y:ND} (h:aC (d+1) y=true) (g:aP (d+1) y=true) :
 (y.kind=0∧y=.mk 0 false 0 ⟨#[]⟩ [] [])∨(y.kind=1∧y=.mk 1 (decide (iC y=1)) 0 ⟨#[]⟩ [] [])∨(y.kind=2∧dD y.num=true∧iC y=y.num∧y=.mk 2 false y.num ⟨#[]⟩ [] [])∨(y.kind=3∧y.text.size≤65536∧iC y=y.text.size∧y=.mk 3 false 0 y.text [] [])∨(y.kind=4∧iC y=y.items.length∧y.items.length≤256∧y=.mk 4 false 0 ⟨#[]⟩ [] y.items)∨(y.kind=5∧iC y=y.items.length∧y.items.length≤256∧y=.mk 5 false 0 ⟨#[]⟩ y.names y.items∧y.names.length=y.items.length):=by
 obtain ⟨-,f,c,-⟩:=aX h;obtain ⟨j,-⟩:=cG g;have i:=dY c;have e:=iF h;obtain ⟨k,b,n,l,ns,its⟩:=y;unfold nd0 at e;simp only [ND.mk.injEq,ND.kind,ND.bool,ND.num,ND.text,ND.names,ND.items] at *;rcases e with ⟨rfl,rfl,rfl,rfl,rfl,rfl⟩ | ⟨rfl,-,rfl,rfl,rfl,rfl⟩ | ⟨rfl,rfl,-,rfl,rfl,rfl⟩ | ⟨rfl,rfl,rfl,-,rfl,rfl⟩ | ⟨rfl,rfl,rfl,rfl,rfl,-⟩ | ⟨⟨rfl,rfl,rfl,rfl,-,-⟩,a⟩
 ·left;simp
 ·right;left;cases b <;> simp [iC,ND.kind,ND.bool]
 ·right;right;left;simp [iC,ND.kind,ND.num,j]
 ·right;right;right;left;simp [iC,ND.kind,ND.text,i]
 ·right;right;right;right;left;simp [iC,ND.kind,ND.items,f]
 ·right;right;right;right;right;simp [iC,ND.kind,ND.items,f,a]
def qZ (d:Nat) (k:Int) (ns:List Bt) (its:List ND):Ub:=if k=5 then (List.zipWith (fun s y=>eR s++aW d y) ns its).flatten else its.flatMap (aW d)
theorem aJu {d:Nat} {l:Ub} {p:Nat} {c:UInt8} (b:l[p]?=some c) (f:¬ (c.toNat<128∨224≤c.toNat∨c.toNat=192∨c.toNat=194∨c.toNat=195∨(204≤c.toNat∧c.toNat≤211)∨aFw c.toNat)):∀y t,¬MIs (d+1) l p y t:=by
 intro y t h;obtain ⟨a,-⟩:=aLg b h;obtain ⟨-,g,-,-⟩:=aX h.1
 apply f
 unfold aFw;rcases vE h.1 h.2.1 with ⟨c1,-⟩ | ⟨c1,-⟩ | ⟨c1,-⟩ | ⟨c1,c2,-⟩ | ⟨c1,-,c2,-⟩ | ⟨c1,-,c2,-⟩
 ·have e:(pHd y).1=192:=by unfold pHd;rw [c1];rfl
  omega
 ·have e:(pHd y).1=195∨(pHd y).1=194:=by unfold pHd;rw [c1];cases y.bool <;> simp
  omega
 ·have e:(pHd y).1=(gS y.num).1:=by unfold pHd;rw [c1];rfl
  rw [e] at a;rw [a];unfold gS
  (repeat' split) <;> dsimp only <;> (try unfold cU) <;> omega
 ·have e:(pHd y).1=(gU y.text.size).1:=by unfold pHd;rw [c1];rfl
  rw [e] at a;rw [a];unfold gU
  (repeat' split) <;> dsimp only <;> omega
 ·have e:(pHd y).1=(oG y.items.length).1:=by unfold pHd;rw [c1];rfl
  rw [e] at a;rw [a];unfold oG
  (repeat' split) <;> dsimp only <;> omega
 ·have e:(pHd y).1=(kR y.items.length).1:=by unfold pHd;rw [c1];rfl
  rw [e] at a;rw [a];unfold kR
  (repeat' split) <;> dsimp only <;> omega
def MIr (d:Nat) (r:Ub) (y:ND) (t:Ub):Prop:=aC d y=true∧aP d y=true∧r=aW d y++t
def MHd (r:Ub) (a:Bool) (k z:Int) (b:Ub):Prop:=∀d y t,aC (d+1) y=true→aP (d+1) y=true→r=cH (pHd y) (lD y)++t→a=true∧k=y.kind∧z=iC y∧b=t
theorem vD {d:Nat} {r b:Ub} {c:Bool} {k z:Int} (a:MHd r c k z b) {y:ND} {t:Ub} (h:MIr (d+1) r y t):c=true∧k=y.kind∧z=iC y∧b=lA (aW d) y++t:=by
 obtain ⟨f,g,e⟩:=h;rw [gB,Aj] at e;exact a d y _ f g e
theorem aCn {z:Bt} (d:Nat) (h:aZ z=true):aC (d+1) (.mk 3 false 0 z [] [])=true∧aP (d+1) (.mk 3 false 0 z [] [])=true∧aW (d+1) (.mk 3 false 0 z [] [])=eR z:=by
 refine ⟨?_,?_,?_⟩
 ·rw [cV]
  unfold fC;simp [ND.kind,ND.bool,ND.num,ND.text,ND.names,ND.items,h]
 ·rw [cS];rfl
 ·rfl
def MLr (d:Nat) (k:Int) (n:Nat) (r:Ub) (ns:List Bt) (X:List ND) (b:Ub):Prop:=∀y t,MIr (d+1) r y t→y=.mk k false 0 ⟨#[]⟩ y.names y.items∧y.items.length=n∧∃its a,y.items=X++its∧y.names=ns++a∧(k=5→a.length=its.length)∧(k ≠ 5→a=[])∧(∀z,z ∈ its→aC d z=true∧aP d z=true)∧(∀z,z ∈ a→aZ z=true)∧b=qZ d k a its++t
def MVr (d:Nat) (k:Int) (n:Nat) (r:Ub) (ns:List Bt) (X:List ND) (b:Ub):Prop:=∀y t,MIr (d+1) r y t→y=.mk k false 0 ⟨#[]⟩ y.names y.items∧y.items.length=n∧∃i its a,y.items=X++i::its∧y.names=ns++a∧(k=5→a.length=its.length)∧(k ≠ 5→a=[])∧(∀z,z ∈ i::its→aC d z=true∧aP d z=true)∧(∀z,z ∈ a→aZ z=true)∧b=aW d i++(qZ d k a its++t)
theorem MLr.start {d:Nat} {r i:Ub} {o:Bool} {k:Int} {n:Nat} (f:MHd r o k (n:Int) i) (q:k=4∨k=5):MLr d k n r [] [] i:=by
 intro y t h;obtain ⟨-,m,s,j⟩:=vD f h;obtain ⟨l,-,-,g⟩:=aX h.1;obtain ⟨-,b⟩:=cG h.2.1;rw [m] at q ⊢;rcases vE h.1 h.2.1 with ⟨c1,-⟩ | ⟨c1,-⟩ | ⟨c1,-⟩ | ⟨c1,-⟩ | ⟨c1,c2,c3,e⟩ | ⟨c1,c2,c3,e,p⟩
 ·omega
 ·omega
 ·omega
 ·omega
 ·have c:y.names=[]:=by rw [e];rfl
  rw [c1];refine ⟨by rw [c];exact e,by omega,y.items,[],rfl,c,fun h=>by omega,fun _=>rfl,fun z a=>⟨l z a,b z a⟩,fun z a=>by simp at a,?_⟩
  rw [j];unfold lA qZ;rw [c1];rfl
 ·rw [c1]
  refine ⟨e,by omega,y.items,y.names,rfl,rfl,fun _=>p,fun h=>absurd rfl h,fun z a=>⟨l z a,b z a⟩,fun z a=>g z a,?_⟩
  rw [j];unfold lA qZ;rw [c1];rfl
theorem MLr.more {d:Nat} {k:Int} {n:Nat} {r f:Ub} {ns:List Bt} {X:List ND} (h:MLr d k n r ns X f) (b:k ≠ 5) (u:X.length<n):MVr d k n r ns X f:=by
 intro y t q;obtain ⟨j,e,its,a,c,o,s,m,p,g,l⟩:=h y t q;cases its with
 | nil=>rw [c,By] at e;omega
 | cons i its=>
  refine ⟨j,e,i,its,a,c,o,fun h=>absurd h b,m,p,g,?_⟩
  rw [l];unfold qZ;rw [Ae b,Ae b,Cl,Aj]
theorem MLr.text {d:Nat} {k:Int} {n:Nat} {r u g:Ub} {j:Bool} {ns:List Bt} {X:List ND} (h:MLr d k n r ns X u) (f:k=5) (L:X.length<n) {x:ND} (E:∀z t,MIr d u z t→j=true∧x=z∧g=t):(j=false→∀y t,¬MIr (d+1) r y t)∧MVr d k n r (ns++[x.text]) X g:=by
 have b:∀y t,MIr (d+1) r y t→j=true∧(y=.mk k false 0 ⟨#[]⟩ y.names y.items∧y.items.length=n∧∃i its a,y.items=X++i::its∧y.names=ns++[x.text]++a∧(k=5→a.length=its.length)∧(k ≠ 5→a=[])∧(∀z,z ∈ i::its→aC d z=true∧aP d z=true)∧(∀z,z ∈ a→aZ z=true)∧g=aW d i++(qZ d k a its++t)):=by
  intro y t c;obtain ⟨w,o,its,a,s,B,v,K,p,q,l⟩:=h y t c;cases its with
  | nil=>rw [s,By] at o;omega
  | cons i its=>
   cases a with
   | nil=>have:=v f;simp at this
   | cons m a=>
    unfold qZ at l;rw [Am f,Bh,Bv,Aj,Aj] at l;obtain ⟨e,rfl⟩:∃e,d=e+1:=by
     cases d with
     | zero=>have:=(p i (by simp)).1;cases this
     | succ e=>exact ⟨e,rfl⟩
    obtain ⟨J,D,F⟩:=aCn e (q m (by simp))
    obtain ⟨A,H,C⟩:=E _ _ ⟨J,D,by rw [F];exact l⟩
    subst H;refine ⟨A,w,o,i,its,a,s,by rw [B];simp [ND.text],fun h=>by have:=v h;simpa using this,fun h=>absurd f h,p,fun z G=>q z (by simp [G]),?_⟩
    rw [C];unfold qZ;rw [Am f]
 exact ⟨(fun I y t c=>by have:=(b y t c).1;rw [I] at this;cases this),fun y t c=>(b y t c).2⟩
theorem MVr.item {d:Nat} {k:Int} {n:Nat} {r j e:Ub} {f:Bool} {ns:List Bt} {X:List ND} (h:MVr d k n r ns X j) {x:ND} (A:∀z t,MIr d j z t→f=true∧x=z∧e=t):(f=false→∀y t,¬MIr (d+1) r y t)∧MLr d k n r ns (X++[x]) e:=by
 have b:∀y t,MIr (d+1) r y t→f=true∧(y=.mk k false 0 ⟨#[]⟩ y.names y.items∧y.items.length=n∧∃its a,y.items=X++[x]++its∧y.names=ns++a∧(k=5→a.length=its.length)∧(k ≠ 5→a=[])∧(∀z,z ∈ its→aC d z=true∧aP d z=true)∧(∀z,z ∈ a→aZ z=true)∧e=qZ d k a its++t):=by
  intro y t c;obtain ⟨m,p,i,its,a,w,q,B,v,g,u,D⟩:=h y t c;have l:=g i (by simp)
  obtain ⟨o,E,s⟩:=A i _ ⟨l.1,l.2,D⟩;subst E;exact ⟨o,m,p,its,a,by rw [w];simp,q,B,v,fun z C=>g z (by simp [C]),u,s⟩
 exact ⟨(fun F y t c=>by have:=(b y t c).1;rw [F] at this;cases this),fun y t c=>(b y t c).2⟩
theorem MLr.done {d:Nat} {k:Int} {n:Nat} {r f:Ub} {ns:List Bt} {X:List ND} (h:MLr d k n r ns X f) (u:X.length=n):∀y t,MIr (d+1) r y t→(.mk k false 0 ⟨#[]⟩ ns X)=y∧f=t:=by
 intro y t q;obtain ⟨j,p,its,a,b,c,i,m,v,s,l⟩:=h y t q;have g:its=[]:=by
  rw [b,Lg] at p;exact Aw.1 (by omega)
 subst g;have o:a=[]:=by
  by_cases e:k=5
  ·exact Aw.1 (i e)
  ·exact m e
 subst o;rw [By] at b c;refine ⟨by rw [j,b,c],?_⟩
 rw [l];unfold qZ
 split <;> rfl
def txM (s:Bt):ND:=.mk 3 false 0 s [] []
def GJ (s:Bt):List Bt:=[bC (cH (gU s.size) s.size),s]
def tZ (V:ND→List Bt) (x:ND):List (List Bt):=if x.kind=5 then List.zipWith (fun s y=>GJ s++V y) x.names x.items else x.items.map V
def pcs:Nat→ND→List Bt
 | 0,_=>[]
 | d+1,x=>bC (cH (pHd x) (lD x))::x.text::(tZ (pcs d) x).flatten
theorem mV (d:Nat) (x:ND):pcs (d+1) x=bC (cH (pHd x) (lD x))::x.text::(tZ (pcs d) x).flatten:=rfl
theorem UL (d:Nat) (s:Bt):pcs (d+1) (txM s)=GJ s:=rfl
def lK (l:List Bt):Ub:=l.flatMap fun s=>s.data.toList
theorem pR (a b:List Bt):lK (a++b)=lK a++lK b:=by unfold lK;rw [List.flatMap_append]
theorem qI (a:Bt) (b:List Bt):lK (a::b)=a.data.toList++lK b:=by unfold lK;rw [Cl]
theorem OI {V:ND→List Bt} {W:ND→Ub}:∀ (its:List ND),(∀y,y ∈ its→lK (V y)=W y)→lK (its.map V).flatten=its.flatMap W
 | [],_=>rfl
 | y::u,h=>by
  rw [Bq,Bv,pR,Cl,h y (by simp),OI u fun z a=>h z (by simp [a])]
theorem aEy (s:Bt):lK (GJ s)=eR s:=by
 unfold GJ eR;rw [qI,qI,gR];simp [lK]
theorem OH {V:ND→List Bt} {W:ND→Ub}:∀ (ns:List Bt) (its:List ND),(∀y,y ∈ its→lK (V y)=W y)→lK (List.zipWith (fun s y=>GJ s++V y) ns its).flatten=(List.zipWith (fun s y=>eR s++W y) ns its).flatten
 | [],_,_=>rfl
 | s::t,[],_=>rfl
 | s::t,y::u,h=>by
  rw [Bh,Bh,Bv,Bv,pR,pR,aEy,h y (by simp),OH t u fun z a=>h z (by simp [a])]
theorem GT:∀ (d:Nat) (x:ND),aC d x=true→lK (pcs d x)=aW d x
 | 0,_,h=>by cases h
 | d+1,x,h=>by
  obtain ⟨e,-,-,-⟩:=aX h;have c:=iF h;have a:∀y,y ∈ x.items→lK (pcs d y)=aW d y:=fun y g=>GT d y (e y g)
  rw [mV,gB,qI,qI,gR]
  congr 1
  unfold tZ lA;obtain ⟨k,b,n,t,ns,its⟩:=x;unfold nd0 at c;simp only [ND.mk.injEq,ND.kind,ND.bool,ND.num,ND.text,ND.names,ND.items] at *;rcases c with ⟨rfl,rfl,rfl,rfl,rfl,rfl⟩ | ⟨rfl,-,rfl,rfl,rfl,rfl⟩ | ⟨rfl,rfl,-,rfl,rfl,rfl⟩ | ⟨rfl,rfl,rfl,-,rfl,rfl⟩ | ⟨rfl,rfl,rfl,rfl,rfl,-⟩ | ⟨⟨rfl,rfl,rfl,rfl,-,-⟩,f⟩
  ·rfl
  ·rfl
  ·rfl
  ·simp [lK]
  ·simp only [Int.reduceEq,if_false,if_true,↓reduceIte]
   rw [OI its a];rfl
  ·simp only [Int.reduceEq,if_false,if_true,↓reduceIte]
   rw [OH ns its a];rfl
theorem aGy {d:Nat} {x:ND} (h:aC d x=true) (q:List Bt) (b:q <+: pcs d x):(lK q).length≤(aW d x).length:=by
 rw [←GT d x h];obtain ⟨t,a⟩:=b;rw [←a,pR,Lg];omega
theorem aEu {V:ND→List Bt} {x:ND} (a:x.kind ≠ 5) {j:Nat} {y:ND} (b:x.items[j]?=some y):(tZ V x)[j]?=some (V y):=by
 unfold tZ;rw [Ae a,Be,b];rfl
theorem aIe {V:ND→List Bt} {x:ND} (a:x.kind=5) {j:Nat} {y:ND} {s:Bt} (b:x.items[j]?=some y) (c:x.names[j]?=some s):(tZ V x)[j]?=some (GJ s++V y):=by
 unfold tZ;rw [Am a,List.getElem?_zipWith,c,b]
theorem aIf {V:ND→List Bt} {x:ND} (a:x.kind=5→x.names.length=x.items.length):(tZ V x).length=x.items.length:=by
 unfold tZ
 by_cases h:x.kind=5
 ·rw [Am h,Dg,a h];omega
 ·rw [Ae h,Bk]
def iJ (d:Nat) (x:ND) (j:Nat):List Bt:=bC (cH (pHd x) (lD x))::x.text::((tZ (pcs d) x).take j).flatten
theorem WI (d:Nat) (x:ND):iJ d x 0=[bC (cH (pHd x) (lD x)),x.text]:=rfl
theorem mT {d:Nat} {x:ND} {j:Nat} {c:List Bt} (h:(tZ (pcs d) x)[j]?=some c):iJ d x (j+1)=iJ d x j++c:=by
 unfold iJ;rw [Bf,h];simp
theorem aBc {d:Nat} {x:ND} {j:Nat} (h:(tZ (pcs d) x).length≤j):iJ d x j=pcs (d+1) x:=by
 unfold iJ;rw [Ak h,mV]
theorem zC (d:Nat) (x:ND) (j:Nat):iJ d x j <+: pcs (d+1) x:=by
 refine ⟨((tZ (pcs d) x).drop j).flatten,?_⟩;unfold iJ;rw [mV,Bo,Bo,←List.flatten_append,De]
theorem uS {d:Nat} {x:ND} {j:Nat} {c q:List Bt} (h:(tZ (pcs d) x)[j]?=some c) (a:q <+: c):iJ d x j++q <+: pcs (d+1) x:=by
 refine List.IsPrefix.trans ?_ (zC d x (j+1));rw [mT h];exact (List.prefix_append_right_inj _).2 a
theorem XV {d:Nat} {x:ND} (h:aC (d+1) x=true) (a:x.kind=5):x.names.length=x.items.length:=by
 rcases iF h with e | e | e | e | e | ⟨-,e⟩
 ·rw [e] at a;cases a
 ·rw [e] at a;cases a
 ·rw [e] at a;cases a
 ·rw [e] at a;cases a
 ·rw [e] at a;cases a
 ·exact e
theorem aJl {d:Nat} {s:Bt} (h:aZ s=true):aC (d+1) (txM s)=true∧aP (d+1) (txM s)=true:=by
 refine ⟨?_,by rw [cS];rfl⟩
 rw [cV];unfold fC txM;simp [h,ND.kind,ND.bool,ND.num,ND.text,ND.names,ND.items]
end Go.Proofs.YtncdpanfefnjlaaGreatDoor