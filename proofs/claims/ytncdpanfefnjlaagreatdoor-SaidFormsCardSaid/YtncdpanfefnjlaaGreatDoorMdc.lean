import Derived.Test.YtncdpanfefnjlaaGreatDoorMnd
import Derived.Test.YtncdpanfefnjlaaGreatDoorMen
import Derived.Test.YtncdpanfefnjlaaGreatDoorNnode
set_option linter.unusedVariables false
set_option linter.unusedSimpArgs false
set_option maxHeartbeats 6400000
set_option maxRecDepth 100000
namespace Go.Proofs.YtncdpanfefnjlaaGreatDoor
open Go.Proofs.Tryz
theorem kF {d:Nat} {y:ND} (h:aC (d+1) y=true) (j:aP (d+1) y=true) :
 (fZ y=7∧20≤gL y∧gL y≤22)∨(fZ y=0∧gL y≤9223372036854775807∧y=.mk 2 false (gL y:Int) ⟨#[]⟩ [] [])∨(fZ y=1∧gL y≤9223372036854775807∧y=.mk 2 false (-1 - (gL y:Int)) ⟨#[]⟩ [] [])∨(fZ y=3∧y.text.size≤65536∧y=.mk 3 false 0 y.text [] []∧aU (d+1) y=fT y.text)∨(fZ y=4∧gL y=y.items.length∧y.items.length≤256∧y=.mk 4 false 0 ⟨#[]⟩ [] y.items)∨(fZ y=5∧gL y=y.items.length∧y.items.length≤256∧y=.mk 5 false 0 ⟨#[]⟩ y.names y.items∧y.names.length=y.items.length):=by
 obtain ⟨-,i,c,-⟩:=aX h;obtain ⟨g,-⟩:=cG j;have l:=dY c;have f:=iF h;unfold dD at g;rw [An,As,As] at g;obtain ⟨k,b,n,m,ns,its⟩:=y;unfold nd0 at f;simp only [ND.mk.injEq,ND.kind,ND.bool,ND.num,ND.text,ND.names,ND.items] at *;rcases f with ⟨rfl,rfl,rfl,rfl,rfl,rfl⟩ | ⟨rfl,-,rfl,rfl,rfl,rfl⟩ | ⟨rfl,rfl,-,rfl,rfl,rfl⟩ | ⟨rfl,rfl,rfl,-,rfl,rfl⟩ | ⟨rfl,rfl,rfl,rfl,rfl,-⟩ | ⟨⟨rfl,rfl,rfl,rfl,-,-⟩,a⟩
 ·left;simp [fZ,gL,ND.kind]
 ·left;cases b <;> simp [fZ,gL,ND.kind,ND.bool]
 ·right
  by_cases e:n<0
  ·right;left;simp [fZ,gL,ND.kind,ND.num,e];omega
  ·left;simp [fZ,gL,ND.kind,ND.num,e];omega
 ·right;right;right;left
  refine ⟨rfl,l,by simp,?_⟩
  rw [dU];simp [nD,fZ,gL,fT,ND.kind,ND.text]
 ·right;right;right;right;left;exact ⟨rfl,rfl,i,by simp⟩
 ·right;right;right;right;right;exact ⟨rfl,rfl,i,by simp,a⟩
def rA (d:Nat) (k:Int) (ns:List Bt) (its:List ND):Ub:=if k=5 then (List.zipWith (fun s y=>fT s++aU d y) ns its).flatten else its.flatMap (aU d)
theorem FD (B g:Nat):∀n:Nat,1≤n→n<100→∀w:World,bG B w g→Calls prog 20 #[.pointer (some ⟨g,0,none⟩),Iz (n:Int)] w fun e w'=>pU n w e w'∧w.grownBy w' (some g)∧bG B w' g
 | 0,h,_,_,_=>absurd h (by decide)
 | n+1,h1,h2,w,hd=>RK B g (n+1) w h1 h2 hd fun h a b=>by
  have:=FD B g n (by omega) (by omega) a b
  rw [show ((n+1:Nat):Int) - 1=(n:Int) by omega,Nat.add_sub_cancel]
  exact this
theorem YM (B g n:Nat) (z:Int) (a:(n:Int)=z) (b:2≤n) (c:n<100) (w:World) (h:bG B w g):Calls prog 7 #[.pointer (some ⟨g,0,none⟩),Iz z] w fun e w'=>uD n w e w'∧w.grownBy w' (some g)∧bG B w' g:=
 a ▸ aDa B g n w b c h fun f d=>by
  have:=FD B g (n - 1) (by omega) (by omega) f d
  rw [show ((n - 1:Nat):Int)=(n:Int) - 1 by omega] at this
  exact this
theorem YN (B g n:Nat) (z:Int) (a:(n:Int)=z) (b:2≤n) (c:n<100) (w:World) (d:bG B w g):Calls prog 7 #[.pointer (some ⟨g,0,none⟩),Iz z] w fun e w'=>OM n w e w'∧w.grownBy w' (some g)∧bG B w' g:=(YM B g n z a b c w d).mono fun e w' h=>⟨h.1.k,h.2⟩
end Go.Proofs.YtncdpanfefnjlaaGreatDoor
namespace Go.Proofs.YtncdpanfefnjlaaGreatDoor
open Go.Proofs.Tryz
open Go Go.ChangeShapes Go.WideShapes Go.ChangeAt Go.RowKit
theorem xH:∀ {d e:Nat} {x:ND},d≤e→aP e x=true→aP d x=true
 | 0,_,_,_,_=>rfl
 | d+1,0,_,h,_=>by omega
 | d+1,e+1,x,hd,hn=>by
  rw [cS,An,Ax] at hn ⊢;exact ⟨hn.1,fun y a=>xH (by omega) (hn.2 y a)⟩
def sF (s:Bt) (x:ND) (a:Int):Prop:=(a=0∧aC 8 x=true∧aP 8 x=true∧aU 8 x=s.data.toList∧s.size≤65536)∨(a=4∧x=nd0∧∀y,aC 8 y=true→aP 8 y=true→s.size≤65536→aU 8 y ≠ s.data.toList)
def OT (s:Bt) (w:World) (e:Ending) (w':World):Prop:=∃ (c:Vl) (x:ND) (a:Int),e=.returned (.tuple #[.agg c.toArray,Iz a])∧aD 9 (fun b=>w.heap.size≤b∧b<w'.heap.size) w' c x∧Below w.heap.size w w'∧sF s x a
end Go.Proofs.YtncdpanfefnjlaaGreatDoor
namespace Go.Proofs.YtncdpanfefnjlaaGreatDoor
open Go.Proofs.Tryz
open Go.Lib
theorem aLj {d:Nat} {x:ND} (h:aC d x=true) (D:Nat):iM D x:=fK (dS d D x h)
end Go.Proofs.YtncdpanfefnjlaaGreatDoor
namespace Go.Proofs.YtncdpanfefnjlaaGreatDoor
open Go.Proofs.Tryz
open Go Go.ChangeShapes Go.WideShapes Go.ChangeAt Go.RowKit
def jsS (x:ND):Bt:=if aC 8 x then (if 65536<(aR 8 x).length then ⟨#[]⟩ else ⟨(aR 8 x).toArray⟩) else ⟨#[]⟩
def jsE (x:ND):Int:=if aC 8 x then (if 65536<(aR 8 x).length then 3 else 0) else 1
theorem yC {x:ND} (h:aC 8 x=false):jsS x=⟨#[]⟩∧jsE x=1:=by unfold jsS jsE;rw [h];exact ⟨rfl,rfl⟩
theorem tO {x:ND} (h:aC 8 x=true) (a:65536<(aR 8 x).length):jsS x=⟨#[]⟩∧jsE x=3:=by unfold jsS jsE;rw [h,Am rfl,Am rfl,Am a,Am a];exact ⟨rfl,rfl⟩
theorem pG {x:ND} (h:aC 8 x=true) (a:¬65536<(aR 8 x).length):jsS x=⟨(aR 8 x).toArray⟩∧jsE x=0:=by unfold jsS jsE;rw [h,Am rfl,Am rfl,Ae a,Ae a];exact ⟨rfl,rfl⟩
theorem aDe (x:ND):(jsS x).size≤65536:=by
 unfold jsS
 split
 ·split
  ·exact Av _
  ·rename_i h;rw [qL];omega
 ·exact Av _
def VK (x:ND) (w:World) (e:Ending) (w':World):Prop:=e=.returned (.tuple #[.string (jsS x),Iz (jsE x)])∧Below w.heap.size w w'
theorem ITb.of {w w':World} {g:Nat} (h:xX w) (d:Below w.heap.size w w') (c:w.heap.size≤g):ITb g w':=fun a b=>Lib.tabBelow_of_tabIs h a (d.trans (b.mono c))
theorem WSt.fresh {w:World} {m:Nat} (a:m<w.heap.size):sC (w.heap.size+1) (w.alloc (.cells #[Sn,.map (some m)] 168)) w.heap.size m []:=
 ⟨_,Hn _ _,Dk _ _ _ _,Nat.lt_succ_self _,a⟩
theorem WFr.below {TB:TypeId} {g C:Nat} {w w':World} (h:WFr TB g w w') (a:C≤g):Below C w w':=h.1.mono a
theorem MU {D:Nat} {S:Nat→Prop} (cs:Vl) (x:ND) (w:World) (h:aD D S w cs x) (Y:∀b,S b→b<w.heap.size) (hl:iM D x) (hw:aC 8 x=true→aP 8 x=true) (hT:jR w) (hI:xX w):Calls prog 126 #[.agg cs.toArray] w (VK x w):=by
 obtain ⟨a1,l1,c1,a2,l2,c2,rfl⟩:=h.slices;obtain ⟨ib,xe,xl,xi,f⟩:=Ea nA;have L:=(Br w.heap.size w).alloc (o:=.cells (Na x a1 l1 c1 a2 l2 c2) 28) (Lr _);have ck:=aA (Hn w (.cells (Na x a1 l1 c1 a2 l2 c2) 28));have I:w.heap.size<(w.alloc (.cells (Na x a1 l1 c1 a2 l2 c2) 28)).heap.size:=by simp
 obtain ⟨w1,n⟩:∃W,W=w.alloc (.cells (Na x a1 l1 c1 a2 l2 c2) 28):=⟨_,rfl⟩;rw [←n] at L ck I;have V:=Hh (lG _ x w1 (h.same fun b G=>L.block b (Y b G)) (fun b G=>Ll (Y b G) L.size) hl (hT.below L))
 have B1:=Hh L;have K:=Hh ck;have HI:=Hh hI;have HN:=Hh h;have HS:=Hh Y;have HW:=Hh hw;have WL:=Hh I;clear h Y hl hw hT hI L I xe;cases hv:aC 8 x with
 | false=>
  rw [hv] at V;obtain ⟨u,A⟩:=yC hv;have y:=Hh (Ai u A);clear hv u A
  go_enter func126,ntmps126
  go_upto_region 1 with fail
  rw [←n];clear n
  go_wp2_with (go_at_call 23;(with_reducible refine (V.o).mono ?_);rintro e s ⟨rfl,f⟩)
  go_ret2
  exact ⟨by rw [y.o.1,y.o.2];rfl,B1.o.trans (f.mono B1.o.size)⟩
 | true=>
  rw [hv] at V;have Q:=HW.o hv;have xg:=oL (e:=8) (d:=8) (Lr _) hv;have HV:=Hh hv;have xc:=Hh Q;clear hv Q xg
  go_enter func126,ntmps126
  go_upto_region 1 with fail
  rw [←n];clear n
  go_upto_region 3 with ((with_reducible refine (V.o).mono ?_);rintro e s ⟨rfl,f⟩)
  have LE:=Hh (xA s);have U:=B1.o.trans (f.mono B1.o.size);have X:=Hh f;have xk:w.heap.size<s.heap.size:=Ll WL.o f.size;have T:=Hh U;clear ck f U
  go_upto_region 4 with ((with_reducible refine (LE.o).mono ?_);rintro e i ⟨rfl,l,t⟩)
  have F:=T.o.trans (t.mono T.o.size);have xd:s.heap.size<i.heap.size:=l.lt;have N:=(Br i.heap.size i).alloc (o:=.cells #[Sn,.map (some s.heap.size)] 168) (Lr _);have H:=WSt.fresh (w:=i) xd;have M:(i.alloc (.cells #[Sn,.map (some s.heap.size)] 168)).heap.size=i.heap.size+1:=by simp
  have r:=l.below N;have m:=F.trans (N.mono F.size);have k:=t.trans (N.mono t.size);have R:=(X.o.trans (k.mono X.o.size));have g:∀q v,w1.cell? ⟨w.heap.size,q,none⟩=some v→(i.alloc (.cells #[Sn,.map (some s.heap.size)] 168)).cell? ⟨w.heap.size,q,none⟩=some v:=fun q v hq=>(R.cell (p:=⟨w.heap.size,q,none⟩) WL.o).trans hq
  have d0:=g 0 _ K.o.1;have d1:=g 1 _ K.o.2.1;have d2:=g 2 _ K.o.2.2.1;have d3:=g 3 _ K.o.2.2.2.1;have d4:=g 4 _ K.o.2.2.2.2.1;have d5:=g 5 _ K.o.2.2.2.2.2;clear g R;generalize i.alloc (.cells #[Sn,.map (some s.heap.size)] 168)=w4 at N H M r m k d0 d1 d2 d3 d4 d5 ⊢;have N4:=Hh (ET 8 (by decide) D S _ x w4 (i.heap.size+1) i.heap.size s.heap.size [] H r (by omega) (Av _) (HN.o.same fun b G=>m.block b (HS.o b G)) (fun b G=>by have:=HS.o b G;omega) HV.o xc.o (ITb.of HI.o m (by omega)))
  have xa:=Hh m;have xf:w.heap.size≤i.heap.size:=by omega
  clear t N H l r F m k M
  go_upto_region 5 with ((with_reducible refine (N4.o).mono ?_);rintro e w5 ⟨rfl,l5,C,a,J,B⟩)
  clear d0 d1 d2 d3 d4 d5;have Z:=Hh (yX w5 C);have z:=xa.o.trans (B.below xf);obtain ⟨v5,k1,k2,-,-⟩:=C;have c5:w5.cell? ⟨i.heap.size,0,none⟩=some v5:=aL k1 rfl;obtain ⟨ao,xh,rfl,-,-⟩:=dM k2;have xj:=eA (P:=prog) w5 69 9 5 (i.heap.size+1) l5.length _ l5 k2 underlying69 underlying5 underlying9;have E:=Hh z;clear z B k1 k2 J
  by_cases c:65536<l5.length
  ·rw [Ap c] at Z
   have j:=a.over c;obtain ⟨u,A⟩:=tO HV.o (by simpa using j)
   have y:=Hh (Ai u A);clear u A j a c
   go_wp2_with (go_at_call 141;(with_reducible refine (Z.o).mono ?_);rintro e w6 ⟨rfl,rfl⟩)
   go_ret2
   exact ⟨by rw [y.o.1,y.o.2];rfl,E.o⟩
  ·rw [Ar c] at Z
   have he:=a.fits c;have O:¬65536<(aR 8 x).length:=by rw [he] at c;simpa using c
   obtain ⟨u,A⟩:=pG HV.o O;have y:=Hh (Ai u A);have xb:=Hh he;clear u A O a c he
   go_wp2_with (go_at_call 141;(with_reducible refine (Z.o).mono ?_);rintro e w6 ⟨rfl,rfl⟩)
   go_ret2
   exact ⟨by rw [y.o.1,y.o.2,xb.o];rfl,E.o⟩
theorem LN:uE 0:=by
 intro D S c x w h b a;cases a
theorem zQ:∀d,uE d
 | 0=>LN
 | d+1=>LO (zQ d)
theorem YS {D:Nat} {S:Nat→Prop} (Q:Vl) (x:ND) (w:World) (h:aD D S w Q x) (F:∀b,S b→b<w.heap.size) (X:iM D x) (Z:aC 8 x=true→aP 8 x=true∧(aR 8 x).length≤35184372088832) (Y:jR w) (U:xX w):Calls prog 35 #[.agg Q.toArray] w (VK x w):=by
 obtain ⟨H,J,c1,K,G,c2,rfl⟩:=h.slices;have u:=(Br w.heap.size w).alloc (o:=.cells (Na x H J c1 K G c2) 28) (Lr _);have M:=aA (Hn w (.cells (Na x H J c1 K G c2) 28));have n:w.heap.size<(w.alloc (.cells (Na x H J c1 K G c2) 28)).heap.size:=by simp
 obtain ⟨R,a⟩:∃W,W=w.alloc (.cells (Na x H J c1 K G c2) 28):=⟨_,rfl⟩;rw [←a] at u M n;have V:=Hh (jF _ x R (h.same fun b r=>u.block b (F b r)) (fun b r=>Ll (F b r) u.size) X (Y.below u))
 have I:=Hh u;have t:=Hh M;have HI:=Hh U;have HN:=Hh h;have T:=Hh F;have HW:=Hh Z;have WL:=Hh n;clear h F X Z Y U u n;cases hv:aC 8 x with
 | false=>
  rw [hv] at V;obtain ⟨g,k⟩:=yC hv;have i:=Hh (Ai g k);clear hv g k
  go_enter func35,ntmps35
  go_upto_region 1 with fail
  rw [←a];clear a
  go_wp2_with (go_at_call 32;(with_reducible refine (V.o).mono ?_);rintro e L ⟨rfl,c⟩)
  go_ret2
  exact ⟨by rw [i.o.1,i.o.2];rfl,I.o.trans (c.mono I.o.size)⟩
 | true=>
  rw [hv] at V;obtain ⟨A,j⟩:=HW.o hv;have O:=Hh hv;have P:=Hh A;have C:=Hh j;clear hv A j
  go_enter func35,ntmps35
  go_upto_region 1 with fail
  rw [←a];clear a
  go_upto_region 3 with ((with_reducible refine (V.o).mono ?_);rintro e L ⟨rfl,c⟩)
  have d:=I.o.trans (c.mono I.o.size);have l:∀q v,R.cell? ⟨w.heap.size,q,none⟩=some v→L.cell? ⟨w.heap.size,q,none⟩=some v:=fun q v hq=>(c.cell (p:=⟨w.heap.size,q,none⟩) WL.o).trans hq
  have d0:=l 0 _ t.o.1;have d1:=l 1 _ t.o.2.1;have d2:=l 2 _ t.o.2.2.1;have d3:=l 3 _ t.o.2.2.2.1;have d4:=l 4 _ t.o.2.2.2.2.1;have d5:=l 5 _ t.o.2.2.2.2.2;have N:=Hh (zQ 8 D S _ x L (HN.o.same fun b r=>d.block b (T.o b r)) (fun b r=>Ll (T.o b r) d.size) O.o P.o C.o (HI.o.below d))
  obtain ⟨s,E⟩:∃s:Bt,s=⟨(aR 8 x).toArray⟩:=⟨_,rfl⟩;rw [←E] at N;have B:s.size=(aR 8 x).length:=by rw [E,qL]
  have f:=Hh d;clear M l c d
  by_cases z:65536<s.size
  ·have y:(65536:Int)<(s.size:Int):=by omega
   obtain ⟨g,k⟩:=tO O.o (by omega)
   have i:=Hh (Ai g k);clear g k E B z
   go_wp2_with (go_at_call 67;(with_reducible refine (N.o).mono ?_);rintro e w3 ⟨rfl,m⟩)
   go_ret2
   exact ⟨by rw [i.o.1,i.o.2];rfl,f.o.trans (m.mono f.o.size)⟩
  ·have y:¬ (65536:Int)<(s.size:Int):=by omega
   obtain ⟨g,k⟩:=pG O.o (by omega)
   have i:=Hh (Ai (g.trans E.symm) k);clear g k E B z
   go_wp2_with (go_at_call 67;(with_reducible refine (N.o).mono ?_);rintro e w3 ⟨rfl,m⟩)
   go_ret2
   exact ⟨by rw [i.o.1,i.o.2];rfl,f.o.trans (m.mono f.o.size)⟩
theorem qU {S:Nat→Prop} {w:World} {b:Nat} {T:TypeId} {a:Array Value} (ns:List Bt) (h:w.heap[b]?=some (.cells a T (0,0))) (e:a=(ns.map Value.string).toArray) (g:S b) (d:ns.length≤maxLen) (f:∀s,s ∈ ns→s.size≤maxLen - 2):bH S w (.slice (some ⟨b,0,none⟩) ns.length ns.length) ns:=
 ⟨_,_,rfl,Lr _,d,fun j s c=>⟨b,0,rfl,g,by have:=mH ns h e j s c;rw [Ca];exact this,f s (Ao c)⟩⟩
theorem AK {d:Nat} {S:Nat→Prop} {w:World} {b:Nat} {T:TypeId} {i:Array Value} (A:List NC) (h:w.heap[b]?=some (.cells i T (0,0))) (e:i=(cM A).toArray) (o:S b) (m:A.length≤maxLen) (k:∀y,y ∈ A→aD d S w y.1 y.2):cE (aD d S w) S w (.slice (some ⟨b,0,none⟩) A.length A.length) (aG A):=by
 have l:(aG A).length=A.length:=by simp [aG]
 refine ⟨some ⟨b,0,none⟩,A.length,by rw [l],by rw [l];exact Lr _,m,fun j x c=>?_⟩
 have a:j<A.length:=by have:=dT c;omega
 have g:A[j]?=some (A[j].1,A[j].2):=by rw [Ac a]
 have p:x=A[j].2:=by
  rw [aG,Be,g] at c;exact (Ab c).symm
 subst p;refine ⟨b,0,A[j].1,rfl,o,fun f u n=>?_,k _ (Du a)⟩
 have:=cT _ h e _ _ (jX (fun y q=>(k y q).len) g f u n)
 rw [Ca];exact this
theorem LY:∀ {d e:Nat} {x:ND},d≤e→aC d x=true→aP d x=true→aP e x=true
 | 0,_,_,_,h,_=>by cases h
 | d+1,0,_,h,_,_=>by omega
 | d+1,e+1,x,hd,hv,hn=>by
  rw [cV,An,Ax] at hv;rw [cS,An,Ax] at hn ⊢;exact ⟨hn.1,fun y a=>LY (by omega) (hv.2 y a) (hn.2 y a)⟩
theorem AJ:∀ {d e:Nat} {x:ND},d≤e→aP e x=true→aP d x=true
 | 0,_,_,_,_=>rfl
 | d+1,0,_,h,_=>by omega
 | d+1,e+1,x,hd,hn=>by
  rw [cS,An,Ax] at hn ⊢;exact ⟨hn.1,fun y a=>AJ (by omega) (hn.2 y a)⟩
theorem cO.mono {d a:Nat} {x:ND} (h:cO d x) (c:d≤a):cO a x:={ h with items:=fun y b=>wL c (h.items y b) }
theorem QE (z:Bt) (w:World):Calls prog 15 #[.string z] w fun e w'=>e=.returned (.agg #[Iz 3,.bool false,Iz 0,.string z,Sn,Sn])∧Below w.heap.size w w':=by
 have b:=(Br w.heap.size w).alloc (o:=.cells #[Iz 3,.bool false,Iz 0,.string z,Sn,Sn] 28) (Lr _);have g:=Hn w (.cells #[Iz 3,.bool false,Iz 0,.string z,Sn,Sn] 28);obtain ⟨i,f,d,h,c,a⟩:=aA g
 go_enter func15,ntmps15
 go_wp2
 refine Au (v:=.agg #[Iz 3,.bool false,Iz 0,.string z,Sn,Sn]) ?_ ?_ ?_;rotate_left
 ·rfl
 ·exact ⟨rfl,b⟩
 ·simp [results,results15,go_sem,i,f,d,h,c,a]
theorem wZ:∀ {d e:Nat} {x:ND},d≤e→aP e x=true→aP d x=true
 | 0,_,_,_,_=>rfl
 | d+1,0,_,h,_=>by omega
 | d+1,e+1,x,hd,hn=>by
  rw [cS,An,Ax] at hn ⊢;exact ⟨hn.1,fun y a=>wZ (by omega) (hn.2 y a)⟩
def sE (s:Bt) (x:ND) (a:Int):Prop:=(a=0∧aC 8 x=true∧aP 8 x=true∧aW 8 x=s.data.toList∧s.size≤65536)∨(a=4∧x=nd0∧∀y,aC 8 y=true→aP 8 y=true→s.size≤65536→aW 8 y ≠ s.data.toList)
def OO (s:Bt) (w:World) (e:Ending) (w':World):Prop:=∃ (c:Vl) (x:ND) (a:Int),e=.returned (.tuple #[.agg c.toArray,Iz a])∧aD 9 (fun b=>w.heap.size≤b∧b<w'.heap.size) w' c x∧Below w.heap.size w w'∧sE s x a
theorem nM {s:Bt} {w b:World} (c:Below w.heap.size w b) (d:sE s nd0 4) :
 OO s w (.returned (.tuple #[.agg Z6,Iz 4])) (dJ b w.heap.size (Iz 0) (.bool false) (Iz 0) (.string ⟨#[]⟩) (Sn) (Sn)):=by
 have a:=aO b w.heap.size (Iz 0) (.bool false) (Iz 0) (.string ⟨#[]⟩) (Sn) (Sn);exact ⟨Y6,nd0,4,rfl,(cJ _ _ 0 false 0 ⟨#[]⟩ (by decide)).deeper (by decide),c.grown a c.size (fun k e=>by cases e;exact Lr _),d⟩
theorem XZ (s:Bt) (w:World) (hT:aAj w):Calls prog 133 #[.string s] w (OO s w):=by
 have b0:=(Br w.heap.size w).alloc (o:=.cells Z6 28) (Lr _);have g:=Hn w (.cells Z6 28);have xx:w.heap.size<(w.alloc (.cells Z6 28)).heap.size:=by simp
 by_cases hl:65536<s.size
 ·have xw:(65536:Int)<(s.size:Int):=by omega
  have I:Hid (sE s nd0 4):=Hh (.inr ⟨rfl,rfl,fun y _ _ h=>absurd h (by omega)⟩)
  have J:=Hh b0;have Y:=Hh g;have f1:=aE g;have c1:=aA g;clear hl b0 g
  go_enter func133,ntmps133
  go_upto_region 1 with fail
  generalize w.alloc (.cells Z6 28)=n at J Y f1 c1 ⊢
  go_wp2
  refine aT (v:=Iz 4) Y.o results133 rfl rfl rfl ?_;exact nM J.o I.o
 ·have xw:¬ (65536:Int)<(s.size:Int):=by omega
  have xc:s.data.toList.length=s.size:=by rw [Ah];rfl
  have HT:=Hh hT;have HL:=Hh hl;clear hT hl
  go_enter func133,ntmps133
  go_upto_region 1 with fail
  obtain ⟨n,P⟩:∃W,W=w.alloc (.cells Z6 28):=⟨_,rfl⟩;rw [←P] at b0 g xx;rw [←P];clear P;have Y:=Hh g;have J:=Hh b0;clear g b0;have t:=(Br n.heap.size n).alloc (o:=.cells #[.string s] 193) (Lr _);have U:=Hn n (.cells #[.string s] 193);have z:=J.o.trans (t.mono J.o.size)
  go_upto_region 4 with fail
  generalize n.alloc _=w3 at t U z ⊢;have xi:PrM w.heap.size w3 n.heap.size s.data.toList:=⟨by rw [pS];exact U,HT.o.s.below z,J.o.size⟩
  have xf:w.heap.size≤n.heap.size:=J.o.size;have xd:=(t.block _ (Aa Y.o)).trans Y.o;have xz:n.heap.size≤w3.heap.size:=t.size;have N:Hid (Calls prog 150 #[.pointer (some ⟨n.heap.size,0,none⟩),Iz 8] w3 (JO (MIr 8 s.data.toList) 8 n.heap.size w.heap.size s.data.toList w3)):=Hh (AQ 8 (by decide) n.heap.size w.heap.size s.data.toList w3 xi (by have:=HL.o;omega))
  have D:=Hh z;have xa:=Hh xd;have xk:w.heap.size ≠ n.heap.size:=by have:=Aa Y.o;omega
  generalize xv:n.heap.size=gx at N xf xk ⊢;clear xv xi t U z xd J Y
  go_upto_region 5 with ((with_reducible refine (N.out).mono ?_);rintro e5 G ⟨cs,x,ok,r',rfl,i,xu,X,xt,xo,S,xg⟩;go_loud ((obtain ⟨a1,l1,c1,Z,l2,c2,xr⟩:=i.slices);subst xr))
  have xm:s.size≤65536→∀y,aC 8 y=true→aP 8 y=true→aW 8 y=s.data.toList→ok=true∧x=y:=fun _ y h1 h2 h3=>by
   have:=xg y [] ⟨h1,h2,by rw [By,h3]⟩
   exact ⟨this.1,this.2.1⟩
  have Q:Below w.heap.size w G:=D.o.grown X D.o.size (fun k hk=>by cases hk;exact xf)
  have B:=cP X xk xa.o;have b6:=(Br G.heap.size G).alloc (o:=.cells (Na x a1 l1 c1 Z l2 c2) 28) (Lr _);have E:=Hn G (.cells (Na x a1 l1 c1 Z l2 c2) 28);have j:=i.same fun b T=>b6.block b T.2
  have C:=Q.trans (b6.mono Q.size);have L:=(b6.block _ (Aa B)).trans B;have A:G.heap.size<(G.alloc (.cells (Na x a1 l1 c1 Z l2 c2) 28)).heap.size:=by simp
  have x5:w.heap.size ≠ G.heap.size:=by have:=Aa B;omega
  obtain ⟨w6,V⟩:∃W,W=G.alloc (.cells (Na x a1 l1 c1 Z l2 c2) 28):=⟨_,rfl⟩;rw [←V] at b6 E j C L A;rw [←V];have xs:w.heap.size≤w3.heap.size:=D.o.size;have xh:=Hh xm;have xn:=Hh C;have xy:=Hh j;have xl:=Hh L;have xb:=Hh (Ai A xs);have f:aP 8 x=true:=wZ (by decide) S.2
  have p:iM 9 x:=S.1;have EN:=Hh (EW _ x w6 j (fun b T=>Cm T.2 A) p (fun _=>f) (HT.o.below C))
  have xq:=Hh f;clear V xm xg Q B b6 j C L A i xu X S xt xo D xa N f p HT;have cn:=aA E;have r:=Hh E;clear E
  go_upto_region 6 with ((with_reducible refine (EN.o).mono ?_);rintro e7 w7 ⟨rfl,m⟩)
  have xe:=xn.o.trans (m.mono xn.o.size);have xj:=(m.block _ (Aa xl.o)).trans xl.o;have M:=(m.block _ (Aa r.o)).trans r.o;have K:=xy.o.same fun b T=>m.block b (Cm T.2 xb.o.1)
  have u:=Hh xe;have a:=Hh xj;have H:=Hh (Ai K m.size);clear xe xj K m EN r cn;cases ok with
  | false=>
   have I:Hid (sE s nd0 4):=Hh (.inr ⟨rfl,rfl,fun y h1 h2 h3 h4=>by have:=(xh.o h3 y h1 h2 h4).1;cases this⟩)
   have f1:=aE a.o;have O:=aA a.o;clear M
   go_wp2
   refine aT (v:=Iz 4) a.o results133 rfl rfl rfl ?_;exact nM u.o I.o
  | true=>
   by_cases c:mpE x ≠ 0∨mpS x ≠ s
   ·have I:Hid (sE s nd0 4):=Hh (.inr ⟨rfl,rfl,fun y h1 h2 h3 h4=>by
     obtain ⟨-,rfl⟩:=xh.o h3 y h1 h2 h4;have l:¬65536<(aW 8 x).length:=by rw [h4,xc];omega
     obtain ⟨g1,g2⟩:=mW h1 l;rcases c with h | h
     ·exact h g2
     ·apply h;rw [g1,h4,pS]⟩)
    clear M
    by_cases d:mpE x=0
    ·have F:mpS x ≠ s:=c.resolve_left (fun h=>h d)
     have x7:((mpS x).toList == s.toList)=false:=by
      rw [Cj,Cj];exact Bm.2 fun h=>F (by rw [←pS (mpS x),h,pS])
     have xp:(mpE x != 0)=false:=by simpa using d
     clear c;rw [d];have f1:=aE a.o;have O:=aA a.o
     go_wp2
     refine aT (v:=Iz 4) a.o results133 rfl rfl rfl ?_;exact nM u.o I.o
    ·have xp:(mpE x != 0)=true:=by simpa using d
     clear c;have f1:=aE a.o;have O:=aA a.o
     go_wp2
     refine aT (v:=Iz 4) a.o results133 rfl rfl rfl ?_;exact nM u.o I.o
   ·have d:mpE x=0:=Dv fun h=>c (.inl h)
    have F:mpS x=s:=Dv fun h=>c (.inr h)
    have I:Hid (sE s x 0):=Hh (by
     have hv:aC 8 x=true:=by
      cases q:aC 8 x with
      | true=>rfl
      | false=>rw [(tJ q).2] at d;cases d
     have l:¬65536<(aW 8 x).length:=fun q=>by rw [(qF hv q).2] at d;cases d
     have hw:aW 8 x=s.data.toList:=by rw [←F,(mW hv l).1,gR]
     exact .inl ⟨rfl,hv,xq.o,hw,by rw [hw,xc] at l;omega⟩)
    clear c;rw [d,F];have f1:=aE a.o;have O:=aA a.o;have cn:=aA M
    go_wp2
    refine aT (v:=Iz 0) a.o results133 rfl rfl rfl ?_;have R:=aO w7 w.heap.size (Iz x.kind) (.bool x.bool) (Iz x.num) (.string x.text) (.slice a1 l1 c1) (.slice Z l2 c2);refine ⟨(Nc x a1 l1 c1 Z l2 c2),x,0,rfl,?_,u.o.grown R u.o.size (fun k hk=>by cases hk;exact Lr _),I.o⟩
    have hz:=xb.o;have x6:=H.o.2;have hr:=Aa a.o;exact (H.o.1.same fun b T=>R.block b (by omega) (by intro e;have:=Ab e;omega)).mono fun b T=>⟨by omega,Ll (by omega) R.size⟩
end Go.Proofs.YtncdpanfefnjlaaGreatDoor