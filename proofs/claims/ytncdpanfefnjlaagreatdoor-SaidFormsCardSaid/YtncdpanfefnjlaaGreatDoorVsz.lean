import Derived.Test.YtncdpanfefnjlaaGreatDoorVwi
set_option linter.unusedVariables false
set_option linter.unusedSimpArgs false
set_option maxHeartbeats 6400000
set_option maxRecDepth 100000
namespace Go.Proofs.YtncdpanfefnjlaaGreatDoor
open Go.Proofs.Tryz
open Go Go.ChangeShapes Go.WideShapes Go.ChangeAt Go.RowKit
def JR (d:Nat) (x:ND) (p:Bt) (k:Int) (w:World) (e:Ending) (w':World):Prop:=∃a:Vl,e=.returned (.tuple #[.agg a.toArray,.string (mK x p k),Iz (gA x p k)])∧aD d (fun b=>w.heap.size≤b∧b<w'.heap.size) w' a (kD x p k)∧Below w.heap.size w w'
theorem yE {d:Nat} {x:ND} {p:Bt} {k a:Int} {w w':World} {e:Ending} (b:gA x p k=a) (c:a ≠ 0) (h:e=.returned (.tuple #[.agg Z6,.string ⟨#[]⟩,Iz a])) (f:Below w.heap.size w w'):JR (d+1) x p k w e w':=by
 have g:kD x p k=nd0:=by unfold kD;rw [b,Ae c]
 have i:mK x p k=⟨#[]⟩:=by unfold mK;rw [b,Ae c]
 rw [JR,g,i,b];exact ⟨Y6,h,(cJ _ w' 0 false 0 ⟨#[]⟩ (by decide)).deeper (show 1≤d+1 by omega),f⟩
structure FtW (w:World) (cx:Array Value) (gv:Nat) (V:VD) (wr:World):Prop where
 box:wr.heap[w.heap.size]?=some (.cells cx 28 (0,0))
 res:wr.heap[w.heap.size+1]?=some (.cells Z6 28 (0,0))
 ver:wr.heap[gv]?=some (.cells #[.string V.p,Iz V.a,Iz V.b,Iz V.f,Iz V.z] 58 (0,0))
 lo:w.heap.size+2≤gv
 bel:Below w.heap.size w wr
theorem FtW.step {w wr b:World} {d:Array Value} {c:Nat} {V:VD} (h:FtW w d c V wr) (a:Below wr.heap.size wr b):FtW w d c V b:=
 ⟨(a.block _ (Aa h.box)).trans h.box,(a.block _ (Aa h.res)).trans h.res,(a.block _ (Aa h.ver)).trans h.ver,h.lo,h.bel.trans (a.mono h.bel.size)⟩
theorem FtW.size {w wr:World} {f:Array Value} {a:Nat} {V:VD} (h:FtW w f a V wr) (z:Int):FtW w f a { V with z:=z } (wr.setCell ⟨a,4,none⟩ (Iz z)):=by
 have c:=h.lo;have d:=h.bel;have b:∀i,i ≠ a→(wr.setCell ⟨a,4,none⟩ (Iz z)).heap[i]?=wr.heap[i]?:=fun i j=>heap_setCell_other wr ⟨a,4,none⟩ i _ j
 exact ⟨(b _ (by omega)).trans h.box,(b _ (by omega)).trans h.res,dX h.ver _,c,d.grown (aV wr a 4 _) d.size (fun g e=>by have:=Ab (show some a=some g from e);omega)⟩
theorem FtW.end_ {w wr:World} {j:Array Value} {i:Nat} {V:VD} (h:FtW w j i V wr) (a b c d e f:Value):Below w.heap.size w (dJ wr (w.heap.size+1) a b c d e f):=
 h.bel.grown (aO wr _ a b c d e f) h.bel.size (fun g e=>by have:=Ab (show some (w.heap.size+1)=some g from e);omega)
theorem dB {f:Func} {Q:Ending→World→Prop} {a:Act} {w:World} {g c s j:Nat} {x0 x1 x2 x3 x4 d v v2 n y o q x u:Value} (h:w.heap[g]?=some (.cells #[n,y,o,q,x,u] 28 (0,0))) (e:f.results=#[.cell c 28,.tmp s,.tmp j]) (i:a.tmps.getD c undef=.pointer (some ⟨g,0,none⟩)) (k:a.tmps.getD s undef=v) (b:a.tmps.getD j undef=v2) (B:a.defers=[])
 (m:Q (.returned (.tuple #[.agg #[x0,x1,x2,x3,x4,d],v,v2])) (dJ w g x0 x1 x2 x3 x4 d)):bodyPost prog f Q .ret a (dJ w g x0 x1 x2 x3 x4 d):=by
 refine Au (v:=.tuple #[.agg #[x0,x1,x2,x3,x4,d],v,v2]) ?_ B m;obtain ⟨A,r,z,t,l,p⟩:=aA (dG h x0 x1 x2 x3 x4 d);obtain ⟨D,C⟩:=a;simp only [Array.getD_eq_getD_getElem?] at i k b;simp [results,e,go_sem,i,k,b,A,r,z,t,l,p]
theorem RG {d:Nat} {S:Nat→Prop} {w:World} {a:Vl} {ns:List Bt} {its:List ND} (h:aD d S w a (.mk 5 false 0 ⟨#[]⟩ ns its)):∃c e c1 f b c2,a=[Iz 5,.bool false,Iz 0,.string ⟨#[]⟩,.slice c e c1,.slice f b c2]:=h.slices
theorem tK {d:Nat} (t:Bt):jZ d (tN t):=by
 cases d with
 | zero=>trivial
 | succ d=>exact ⟨by simp [tN,ND.names],by simp [tN,ND.items],fun y a=>by simp [tN,ND.items] at a⟩
theorem aCp {d:Nat} {x:ND} (t:Bt) (h:jZ (d+1) x) (e:x.items.length≤999999):jZ (d+1) (bJ x t):=by
 have c:=mM x.names x.items;refine ⟨by rw [(jK x t).1];omega,by rw [(jK x t).2];omega,fun y a=>?_⟩
 rcases Bl.1 (show y ∈ tN t::(cN x.names x.items).map (·.2) from a) with rfl | a
 ·exact tK t
 ·obtain ⟨q,b,rfl⟩:=Bp.1 a
  exact h.2.2 _ (pF b).2.1
theorem aAw {d:Nat} {S:Nat→Prop} (cs:Vl) (x:ND) (p:Bt) (k:Int) (hk:wI k) (w:World) (h:aD (d+1) S w cs x) (hS:∀b,S b→b<w.heap.size) (xh:jZ (d+1) x) (hd:1≤d) (hF:aC 8 x=true→x.kind=5→CU x) (hT:uL w) (hD:DB w) :
 Calls prog 25 #[.agg cs.toArray,.string p,Iz k] w (JR (d+1) x p k w):=by
 obtain ⟨a1,l1,c1,a2,l2,c2,rfl⟩:=h.slices;obtain ⟨I,F⟩:∃W,W=(w.alloc (.cells #[Iz x.kind,.bool x.bool,Iz x.num,.string x.text,.slice a1 l1 c1,.slice a2 l2 c2] 28)).alloc (.cells Z6 28):=⟨_,rfl⟩;have z1:(w.alloc (.cells #[Iz x.kind,.bool x.bool,Iz x.num,.string x.text,.slice a1 l1 c1,.slice a2 l2 c2] 28)).heap.size=w.heap.size+1:=by simp
 have b1:Below w.heap.size w I:=by rw [F];exact ((Br _ _).alloc (Lr _) _).alloc (by simp) _
 have k0:I.heap[w.heap.size]?=some (.cells #[Iz x.kind,.bool x.bool,Iz x.num,.string x.text,.slice a1 l1 c1,.slice a2 l2 c2] 28 (0,0)):=by rw [F];exact (Bj _ _ _ (by omega)).trans (Hn _ _)
 have k1:I.heap[w.heap.size+1]?=some (.cells Z6 28 (0,0)):=by rw [F,←z1];exact Hn _ _
 have z3:I.heap.size=w.heap.size+2:=by rw [F];simp
 have HK:=Hh hk;have HN:=Hh h;have HS:=Hh hS;have HL:=Hh xh;have HT:=Hh hT;have HD:=Hh hD;have xv:CO ⟨p,1,0,k,0⟩:=⟨show wI 1 from by unfold wI;omega,show wI 0 from by unfold wI;omega,hk,show wI 0 from by unfold wI;omega⟩
 have xs:=Hh xv;have FC:=Hh (vN x p k fun a b=>(hF a b).1)
 have Z3:=Hh z3;clear h hS xh hT hD hF z1 xv z3
 go_enter func25,ntmps25
 go_upto_region 1 with fail
 rw [←F];clear F
 go_upto_region 2 with fail
 have b2:=(Br I.heap.size I).alloc (o:=.cells #[.string p,Iz 1,Iz 0,Iz k,Iz 0] 58) (Lr _);have hW:FtW w #[Iz x.kind,.bool x.bool,Iz x.num,.string x.text,.slice a1 l1 c1,.slice a2 l2 c2] I.heap.size ⟨p,1,0,k,0⟩ (I.alloc (.cells #[.string p,Iz 1,Iz 0,Iz k,Iz 0] 58)):=
  ⟨(b2.block _ (Aa k0)).trans k0,(b2.block _ (Aa k1)).trans k1,Hn I _,Nat.le_of_eq Z3.o.symm,b1.trans (b2.mono b1.size)⟩
 generalize I.alloc _=w2 at hW ⊢;generalize I.heap.size=gv at hW ⊢;have E:=Hh hW;have B:=dQ hW.ver;have O:Hid (Calls prog 43 #[.agg #[.string p,Iz 1,Iz 0,Iz k,Iz 0]] w2 fun e w'=>e=.returned (.bool (aY ⟨p,1,0,k,0⟩))∧Below w2.heap.size w2 w'):=Hh (rJ ⟨p,1,0,k,0⟩ w2 xs.o)
 clear hW b1 b2 k0 k1 hk;rcases FC.o with ⟨P,R⟩ | ⟨P,R,f3⟩ | ⟨er,f4,P,R,f3,fo,f5,T⟩ | ⟨P,R,f3,fo,f5,T,f7,f8,f9⟩
 ·rw [P] at O
  have FE:=Hh R;clear FC P R
  go_upto_region 3 with ((with_reducible refine (O.o).mono ?_);rintro e w3 ⟨rfl,g⟩)
  have c:=Hh (E.o.step g);have T:=aE c.o.res;have G:=aA c.o.res;clear B O g
  go_wp2
  refine dB (v:=.string ⟨#[]⟩) (v2:=Iz 2) c.o.res results25 rfl rfl rfl rfl ?_;exact yE FE.o (by decide) rfl (c.o.end_ _ _ _ _ _ _)
 ·rw [P] at O
  have FE:=Hh f3
  by_cases h5:x.kind=5
  ·have D:aC 8 x=false:=by
    cases e:aC 8 x with
    | false=>rfl
    | true=>exact absurd ⟨h5,e⟩ R
   have U:=Hh (fun (m:World) (s:Below w.heap.size w m)=>pH _ x m (HN.o.same fun b q=>s.block b (HS.o b q)) (fun b q=>Ll (HS.o b q) s.size) HL.o (HT.o.below s).u)
   rw [D] at U;rw [h5] at U E;rw [h5];clear FC P R f3 h5 D
   go_upto_region 4 with ((with_reducible refine (O.o).mono ?_);rintro e w3 ⟨rfl,g⟩)
   have c:=Hh (E.o.step g);have cb:=aA c.o.box;clear B O g
   go_upto_region 5 with ((with_reducible refine (U.o _ c.o.bel).mono ?_);rintro e w4 ⟨rfl,M⟩)
   have f:=Hh (c.o.step M);have T:=aE f.o.res;have G:=aA f.o.res;clear cb U M
   go_wp2
   refine dB (v:=.string ⟨#[]⟩) (v2:=Iz 1) f.o.res results25 rfl rfl rfl rfl ?_;exact yE FE.o (by decide) rfl (f.o.end_ _ _ _ _ _ _)
  ·clear FC P R f3
   go_upto_region 4 with ((with_reducible refine (O.o).mono ?_);rintro e w3 ⟨rfl,g⟩)
   have c:=Hh (E.o.step g);have cb:=aA c.o.box;have T:=aE c.o.res;have G:=aA c.o.res;clear B O g
   go_wp2
   refine dB (v:=.string ⟨#[]⟩) (v2:=Iz 1) c.o.res results25 rfl rfl rfl rfl ?_;exact yE FE.o (by decide) rfl (c.o.end_ _ _ _ _ _ _)
 all_goals
  have hval:aY ⟨p,1,0,k,0⟩=true:=P;have h5:x.kind=5:=R;have D:aC 8 x=true:=f3;have hm:cO 7 x:=(cK h5).1 D;rw [P] at O;have U:=Hh (fun (m:World) (s:Below w.heap.size w m)=>pH _ x m (HN.o.same fun b q=>s.block b (HS.o b q)) (fun b q=>Ll (HS.o b q) s.size) HL.o (HT.o.below s).u)
  rw [D] at U;have WV:=Hh (fun (V:VD) (hv:aY V=true) (hw:CO V) (m:World) (s:Below w.heap.size w m)=>VX _ x V m (HN.o.same fun b q=>s.block b (HS.o b q)) (fun b q=>Ll (HS.o b q) s.size) HL.o hm.len hd hw (by rw [(wH hv).2.1];decide) (HD.o.below s))
  rw [h5] at U E WV;rw [h5];have xw:=Hh hval;have HM:=Hh hm;have xx:∀t,jZ (d+1) (bJ x t):=fun t=>aCp t HL.o (by have:=hm.most;omega)
  have C:=Hh xx;clear FC P R f3 h5 D hval hm xx
  go_upto_region 4 with ((with_reducible refine (O.o).mono ?_);rintro e w3 ⟨rfl,g⟩)
  have c:=Hh (E.o.step g);have cb:=aA c.o.box;clear B O g
  go_upto_region 6 with ((with_reducible refine (U.o _ c.o.bel).mono ?_);rintro e w4 ⟨rfl,M⟩)
  have f:=Hh (c.o.step M);have xy:=aA f.o.box;have xz:=dQ f.o.ver;clear cb U M;have xb:Hid (Calls prog 46 #[.agg #[Iz 5,.bool x.bool,Iz x.num,.string x.text,.slice a1 l1 c1,.slice a2 l2 c2],.agg #[.string p,Iz 1,Iz 0,Iz k,Iz 0]] w4 (JF (d+1) w4 (bJ x (fL p k 0)))):=Hh (WV.o ⟨p,1,0,k,0⟩ xw.o xs.o w4 f.o.bel)
 ·have FE:=Hh T
  have FO:=Hh f5;have EN:=Hh (fun (m:World) (vn vi:Value) (hn:aD (d+1) (fun b=>b<m.heap.size) m [Iz 5,.bool false,Iz 0,.string ⟨#[]⟩,vn,vi] (bJ x (fL p k 0))) (s:Below w.heap.size w m)=>vP k _ _ m hn (fun b q=>q) (fK (C.o _)) (fun hv=>gT fo) (HT.o.below s))
  rw [f5] at EN;rcases f4 with ⟨-,rfl⟩ | ⟨-,rfl⟩
  all_goals
   clear fo f5 T
   go_upto_region 7 with (first
    | (go_at_call 46;(with_reducible refine (xb.o).mono ?_);rintro e w5 ⟨vn,vi,rfl,J,z⟩)
    | (go_at_call 45;(with_reducible refine (EN.o w5 vn vi J (f.o.step z).bel).mono ?_);rintro e w6 ⟨rfl,K⟩))
   have j:=Hh ((f.o.step z).step K);have T:=aE j.o.res;have G:=aA j.o.res;clear xy xz xb EN J z K
   go_wp2
   refine dB (v:=.string ⟨#[]⟩) (v2:=Iz _) j.o.res results25 rfl rfl rfl rfl ?_;exact yE FE.o (by decide) rfl (j.o.end_ _ _ _ _ _ _)
 ·have FE:=Hh f9
  have x6:=Hh f7;have xm:=f5.err.1;have EN:=Hh (fun (m:World) (vn vi:Value) (hn:aD (d+1) (fun b=>b<m.heap.size) m [Iz 5,.bool false,Iz 0,.string ⟨#[]⟩,vn,vi] (bJ x (fL p k 0))) (s:Below w.heap.size w m)=>vP k _ _ m hn (fun b q=>q) (fK (C.o _)) (fun hv=>f5.nums) (HT.o.below s))
  rw [xm] at EN;have xp:=f7.err.1;have ya:=Hh xp;have xo:=Hh T;clear fo f5 T f7 f8 f9 xm xp
  go_upto_region 7 with (first
   | (go_at_call 46;(with_reducible refine (xb.o).mono ?_);rintro e w5 ⟨vn,vi,rfl,J,z⟩)
   | (go_at_call 45;(with_reducible refine (EN.o w5 vn vi J (f.o.step z).bel).mono ?_);rintro e w6 ⟨rfl,K⟩))
  have j:=Hh ((f.o.step z).step K);clear xy xz xb EN J z K;have yb:=dQ j.o.ver;have x5:=lN j.o.ver
  go_upto_region 10 with fail
  have N:=Hh (j.o.size (vfZ x p k));clear yb x5 j;have xk:((foS k (bJ x (fL p k 0))).size:Int)=vfZ x p k:=rfl;rw [xk];generalize w6.setCell ⟨gv,4,none⟩ (Iz (vfZ x p k))=w7 at N ⊢;clear xk;have x9:=aA N.o.box;have x8:=dQ N.o.ver;have xq:Hid (Calls prog 46 #[.agg #[Iz 5,.bool x.bool,Iz x.num,.string x.text,.slice a1 l1 c1,.slice a2 l2 c2],.agg #[.string p,Iz 1,Iz 0,Iz k,Iz (vfZ x p k)]] w7 (JF (d+1) w7 (bI x p k))):=Hh (WV.o ⟨p,1,0,k,vfZ x p k⟩ xo.o ⟨show wI 1 from by unfold wI;omega,show wI 0 from by unfold wI;omega,HK.o,show wI (vfZ x p k) from by have:=(dF xo.o).2.2.2.2;simp only at this;unfold wI;omega⟩ w7 N.o.bel)
  go_upto_region 11 with ((with_reducible refine (xq.o).mono ?_);rintro e w8 ⟨ye,yh,rfl,xi,xt⟩;obtain ⟨a3,l3,c3,a4,l4,c4,e8⟩:=xi.slices;simp only [Bu,Dd] at e8;obtain ⟨-,-,-,-,rfl,rfl⟩:=e8)
  have b9:=(Br w8.heap.size w8).alloc (o:=.cells #[Iz 5,.bool false,Iz 0,.string ⟨#[]⟩,.slice a3 l3 c3,.slice a4 l4 c4] 28) (Lr _);have k9:=Hn w8 (.cells #[Iz 5,.bool false,Iz 0,.string ⟨#[]⟩,.slice a3 l3 c3,.slice a4 l4 c4] 28);have xl:=xi.same (w':=w8.alloc (.cells #[Iz 5,.bool false,Iz 0,.string ⟨#[]⟩,.slice a3 l3 c3,.slice a4 l4 c4] 28)) fun b q=>b9.block b q
  have X:=Hh ((N.o.step xt).step b9);have r:=b9.size;generalize w8.alloc _=w9 at b9 k9 xl X r ⊢;generalize w8.heap.size=g9 at *;have c9:=aA k9;obtain ⟨_,_,e9,-,xg,xd⟩:=xl;simp only [Bu,Dd,Dj] at e9;obtain ⟨-,-,-,-,rfl,rfl⟩:=e9;have NM:=Hh (aCj d (fun b=>b<w9.heap.size) _ _ _ _ w9 (xd.mono (fun b q=>Ll q r) fun cs y q=>q.mono fun b q=>Ll q r) (xg.mono fun b q=>Ll q r) (fun b q=>q) (C.o _).2.1 (C.o _).1 (C.o _).2.2)
  clear x9 x8 xq xi xt b9 xg xd r k9
  go_upto_region 12 with ((with_reducible refine (NM.o).mono ?_);rintro e l ⟨cf,rfl,Q,xf⟩;obtain ⟨a5,Z,B,a6,l6,G,rfl⟩:=RG Q)
  have xa:=(Br l.heap.size l).alloc (o:=.cells #[Iz 5,.bool false,Iz 0,.string ⟨#[]⟩,.slice a5 Z B,.slice a6 l6 G] 28) (Lr _);have Y:=Hn l (.cells #[Iz 5,.bool false,Iz 0,.string ⟨#[]⟩,.slice a5 Z B,.slice a6 l6 G] 28);have L:=Hh ((X.o.step xf).step xa);have i:aD (d+1) (fun b=>Fr w9.heap.size l b) (l.alloc (.cells #[Iz 5,.bool false,Iz 0,.string ⟨#[]⟩,.slice a5 Z B,.slice a6 l6 G] 28)) [Iz 5,.bool false,Iz 0,.string ⟨#[]⟩,.slice a5 Z B,.slice a6 l6 G] (bI x p k):=Q.same fun b q=>xa.block b q.2.1
  have xc:w.heap.size+2≤w9.heap.size:=by have:=X.o.lo;have:=Aa X.o.ver;omega
  have H:=xa.size;have i:aD (d+1) (fun b=>w.heap.size+2≤b∧b<(l.alloc (.cells #[Iz 5,.bool false,Iz 0,.string ⟨#[]⟩,.slice a5 Z B,.slice a6 l6 G] 28)).heap.size) (l.alloc (.cells #[Iz 5,.bool false,Iz 0,.string ⟨#[]⟩,.slice a5 Z B,.slice a6 l6 G] 28)) [Iz 5,.bool false,Iz 0,.string ⟨#[]⟩,.slice a5 Z B,.slice a6 l6 G] (bI x p k):=i.mono fun b q=>⟨Af xc q.1,Ll q.2.1 H⟩
  generalize l.alloc _=yc at Y L i H ⊢;generalize l.heap.size=yf at *;have x7:=aA Y;have xu:=Hh Y;have xn:=Hh i;have EF:=Hh (vP k _ _ yc i (fun b q=>q.2) (fK (C.o _)) (fun hv=>x6.o.nums) (HT.o.below L.o.bel))
  rw [show foE k (bI x p k)=0 from ya.o] at EF
  clear c9 NM Q xf xa Y i xc H
  go_upto_region 13 with ((with_reducible refine (EF.o).mono ?_);rintro e xr ⟨rfl,n⟩)
  have A:=Hh (L.o.step n);have yd:=aA ((n.block _ (Aa xu.o)).trans xu.o);have xj:=Hh (xn.o.same (w':=xr) fun b q=>n.block b q.2)
  have xe:=n.size;have T:=aE A.o.res;have yg:=aA A.o.res;clear x7 EF n
  go_wp2
  refine dB (v:=.string (foS k (bI x p k))) (v2:=Iz 0) A.o.res results25 rfl rfl rfl rfl ?_;have hg:=aO xr (w.heap.size+1) (Iz 5) (.bool false) (Iz 0) (.string ⟨#[]⟩) (.slice a5 Z B) (.slice a6 l6 G);refine ⟨[Iz 5,.bool false,Iz 0,.string ⟨#[]⟩,.slice a5 Z B,.slice a6 l6 G],?_,?_,A.o.end_ _ _ _ _ _ _⟩
  ·unfold mK
   rw [FE.o,Am rfl]
  ·have e1:kD x p k=bI x p k:=by unfold kD;rw [FE.o,Am rfl]
   rw [e1];exact (xj.o.same fun b q=>hg.block b (Ll q.2 xe) (by intro e;have:=Ab e;omega)).mono fun b q=>⟨by have:=q.1;omega,Ll (Ll q.2 xe) hg.size⟩
end Go.Proofs.YtncdpanfefnjlaaGreatDoor
namespace Go.Proofs.YtncdpanfefnjlaaGreatDoor
open Go.Proofs.Tryz
open Go Go.Maps Go.ChangeShapes Go.WideShapes Go.ChangeAt Go.RowKit
theorem lM (s:Bt) (i j:Nat):(s.extract i j).data.toList=(s.data.toList.drop i).take (j - i):=by
 simp [ByteArray.data_extract]
theorem aAs {v:VD} (h:aY v=true):(vtS v).data.toList=fS v:=by unfold vtS;rw [Am h]
theorem aJo {s:Bt} {v:VD} (M:s.size=17) (C:v.p=s.extract 0 4) (I:∀u,vhN (s.extract 4 5).data.toList=some u→v.a=u) (D:∀u,vhN (s.extract 5 6).data.toList=some u→v.b=u) (G:v.f=jL (s.extract 6 10).data.toList) (F:∀u,vhN (s.extract 10 16).data.toList=some u→v.z=u) :
 (vtE v=0→vtS v=s→eZ s.data.toList=some v)∧((vtE v ≠ 0∨vtS v ≠ s)→eZ s.data.toList=none):=by
 have g:aY v=true→fS v=s.data.toList→eZ s.data.toList=some v:=fun c d=>ER.2 ⟨c,d⟩
 constructor
 ·intro c d
  cases hv:aY v with
  | false=>unfold vtE at c;rw [hv] at c;cases c
  | true=>exact g hv (by rw [← (aAs hv),d])
 ·intro h
  cases hq:eZ s.data.toList with
  | none=>rfl
  | some u=>
   exfalso
   obtain ⟨e,t⟩:=vB hq;obtain ⟨c,d,n,k,x⟩:=dF e;obtain ⟨Q,o,y,q,i,m,L⟩:=GW c (dL 1 u.a.toNat) (dL 1 u.b.toNat) (kC d).1 (dL 6 u.z.toNat) (E:=[95]) rfl;have B:u.p.data.toList++(vhL 1 u.a.toNat++(vhL 1 u.b.toNat++(jM u.f++(vhL 6 u.z.toNat++[95]))))=s.data.toList:=t;rw [B] at o y q i m;have j:=I u.a.toNat (by rw [lM,y];exact yZ 1 _ (by omega))
   have A:=D u.b.toNat (by rw [lM,q];exact yZ 1 _ (by omega))
   have l:=F u.z.toNat (by rw [lM,m];exact yZ 6 _ (by omega))
   have r:v.f=u.f:=by rw [G,lM,i];exact (kC d).2
   have w:v.p=u.p:=by rw [C];apply Cr;apply Cg.1;rw [lM];exact o
   have H:v=u:=by
    obtain ⟨p,a,b,f,z⟩:=v;obtain ⟨O,K,N,P,J⟩:=u;simp only at j A l r w n k x ⊢;rw [j,A,l,r,w,Int.toNat_of_nonneg n.1,Int.toNat_of_nonneg k.1,Int.toNat_of_nonneg x.1]
   subst H;rcases h with h | h
   ·exact h (by unfold vtE;rw [e];rfl)
   ·exact h (by apply Cr;apply Cg.1;rw [aAs e];exact t)
theorem UA {a:Int} (h:-16777216<a) (k:a<16777216):wI a:=by unfold wI;omega
theorem aDv (l:Ub):0≤jL l∧jL l≤3:=by unfold jL;(repeat' split) <;> decide
theorem aJn {s:Bt} (h:s.size ≠ 17):eZ s.data.toList=none:=by
 unfold eZ;rw [Ae];rw [Ah];exact h
def JL (s:Bt) (w:World) (e:Ending) (w':World):Prop:=e=.returned (.tuple #[.agg (vcs (pvV s.data.toList)),Iz (pvE s.data.toList)])∧Below w.heap.size w w'
theorem sZ {f:Func} {Q:Ending→World→Prop} {a:Act} {w:World} {g c s:Nat} {x0 x1 x2 x3 x4 v r k i n q:Value} (h:w.heap[g]?=some (.cells #[r,k,i,n,q] 58 (0,0))) (b:f.results=#[.cell c 58,.tmp s]) (e:a.tmps.getD c undef=.pointer (some ⟨g,0,none⟩)) (d:a.tmps.getD s undef=v) (m:a.defers=[])
 (o:Q (.returned (.tuple #[.agg #[x0,x1,x2,x3,x4],v])) (PZ w g x0 x1 x2 x3 x4)):bodyPost prog f Q .ret a (PZ w g x0 x1 x2 x3 x4):=by
 refine Au (v:=.tuple #[.agg #[x0,x1,x2,x3,x4],v]) ?_ m o;obtain ⟨t,p,l,u,j⟩:=dQ (BH h x0 x1 x2 x3 x4);obtain ⟨y,x⟩:=a;simp only [Array.getD_eq_getD_getElem?] at e d;simp [results,b,go_sem,e,d,t,p,l,u,j]
def PW (w a:World):Prop:=a.heap[w.heap.size]?=some (.cells #[.string ⟨#[]⟩,Iz 0,Iz 0,Iz 0,Iz 0] 58 (0,0))∧Below w.heap.size w a
theorem PW.step {w a b:World} (h:PW w a) (c:Below a.heap.size a b):PW w b:=⟨(c.block _ (Aa h.1)).trans h.1,h.2.trans (c.mono h.2.size)⟩
theorem PW.b {w a:World} (h:PW w a):Below w.heap.size w a:=h.2
def PA (w a:World) (g:Nat):Prop:=a.heap[g]?=some (.cells #[.string ⟨#[]⟩,Iz 0,Iz 0,Iz 0,Iz 0] 58 (0,0))∧w.heap.size<g
theorem PA.step {w a b:World} {g:Nat} (h:PA w a g) (c:Below a.heap.size a b):PA w b g:=⟨(c.block _ (Aa h.1)).trans h.1,h.2⟩
theorem PW.made {w a:World} (h:PW w a):PA w (a.alloc (.cells #[.string ⟨#[]⟩,Iz 0,Iz 0,Iz 0,Iz 0] 58)) a.heap.size:=⟨Hn a _,Aa h.1⟩
def aFq (x:Bt) (a:Int):Prop:=(-16777216<a∧a<16777216)∧∀u,vhN x.data.toList=some u→0<x.size→a=u
theorem PL (s:Bt) (w:World) (hT:DB w) (hE:CP w):Calls prog 51 #[.string s] w (JL s w):=by
 have b0:=(Br w.heap.size w).alloc (o:=.cells #[.string ⟨#[]⟩,Iz 0,Iz 0,Iz 0,Iz 0] 58) (Lr _);have k0:=Hn w (.cells #[.string ⟨#[]⟩,Iz 0,Iz 0,Iz 0,Iz 0] 58)
 by_cases hs:s.size=17
 ·have q1:((s.size:Int) != 17)=false:=by rw [hs];rfl
  have q2:((s.size:Int) == 17)=true:=by rw [hs];rfl
  have n1:(s.extract 4 5).size≤6:=by rw [Do];omega
  have n2:(s.extract 5 6).size≤6:=by rw [Do];omega
  have n3:(s.extract 10 16).size≤6:=by rw [Do];omega
  have m1:0<(s.extract 4 5).size:=by rw [Do];omega
  have m2:0<(s.extract 5 6).size:=by rw [Do];omega
  have m3:0<(s.extract 10 16).size:=by rw [Do];omega
  have HL:=Hh (Ai hs (Ai m1 (Ai m2 m3)));have N1:Hid (∀n,CP n→Calls prog 85 #[.string (s.extract 4 5)] n (JQ (s.extract 4 5) n)):=Hh fun n h=>AZ _ n n1 h
  have N2:Hid (∀n,CP n→Calls prog 85 #[.string (s.extract 5 6)] n (JQ (s.extract 5 6) n)):=Hh fun n h=>AZ _ n n2 h
  have N3:Hid (∀n,CP n→Calls prog 85 #[.string (s.extract 10 16)] n (JQ (s.extract 10 16) n)):=Hh fun n h=>AZ _ n n3 h
  have FO:=Hh (fun n:World=>aHw (s.extract 6 10) n)
  have HT:=Hh hT;have Q:=Hh hE;have z1:(4:Int)≤(s.size:Int):=by omega
  have z2:(5:Int)≤(s.size:Int):=by omega
  have z3:(6:Int)≤(s.size:Int):=by omega
  have z4:(10:Int)≤(s.size:Int):=by omega
  have z5:(16:Int)≤(s.size:Int):=by omega
  clear hs hT hE n1 n2 n3 m1 m2 m3
  go_enter func51,ntmps51
  go_upto_region 3 with fail
  generalize w.alloc _=w1 at b0 k0 ⊢;have K0:=Hh k0;have B0:=Hh b0;clear k0 b0;refine aI (fun _=>True) [] (.take 0 (.take 1 (.take 2 (.take 3 (.take 5 (.take 6 (.take 8 (.take 9 (.take 11 (.take 12 (eP.join true (.ask 4 false (.ask 7 false (.ask 10 false (.ask 13 false (.take 14 (.ask 15 false .stop .stop)) (.ask 15 false (.ask 13 false (.take 14 .stop) .stop) .stop)) (.ask 15 false (.ask 10 false (.ask 13 false (.take 14 .stop) .stop) .stop) .stop)) (.ask 15 false (.ask 7 false (.ask 10 false (.ask 13 false (.take 14 .stop) .stop) .stop) .stop) .stop)) (.ask 15 false (.ask 4 false (.ask 7 false (.ask 10 false (.ask 13 false (.take 14 .stop) .stop) .stop) .stop) .stop) .stop)) (.ask 16 false .stop .stop)))))))))))) (by kernel_rfl) (by kernel_rfl) (fun _ d _ _ _ h=>by cases d <;> exact h) trivial ?_
  have y:=(Br w1.heap.size w1).drew;have B2:=Hh (B0.o.trans (y.mono B0.o.size));have K2:=Hh ((y.block _ (Aa K0.o)).trans K0.o);clear y B0 K0;generalize w1.drew=xc at B2 K2 ⊢
  iterate 10 (refine aF _ ?_ rfl rfl ?_ (fun K F=>?_);rotate_left;(intro w0;go_simp;(try rfl));(go_simp;refine F _ ?_;clear F K))
  have U:Hid (PW w xc):=Hh ⟨K2.o,B2.o⟩;clear K2 B2;obtain ⟨l,xg⟩:∃l,l=jL (s.extract 6 10).data.toList:=⟨_,rfl⟩;rw [←xg] at FO;have xe:=Hh xg;clear xg;refine dW [4,15,18,21,24,25] (fun vs n=>∃ (p:Nat) (a b z:Int),vs=[.pointer (some ⟨p,0,none⟩),Iz a,Iz b,Iz l,Iz z,.agg #[.string (s.extract 0 4),Iz a,Iz b,Iz l,Iz z]]∧aFq (s.extract 4 5) a∧aFq (s.extract 5 6) b∧aFq (s.extract 10 16) z∧PA w n p∧PW w n) ?_ ?_
  rotate_left
  ·rintro vs n ⟨p,a,b,z,rfl,ha,hb,hz,hA,hW⟩
   simp only [gJ,Act.put,Aq,Az,Ba];have f4:=lN hA.1;have c4:=dQ hA.1;have k5:=BH hA.1 (.string (s.extract 0 4)) (Iz a) (Iz b) (Iz l) (Iz z);have g5:=iS n p (.string (s.extract 0 4)) (Iz a) (Iz b) (Iz l) (Iz z);have xk:=hA.2;have r5:=(g5.block _ (Aa hW.1) (by intro e;have:=Ab e;omega)).trans hW.1
   have B5:=hW.2.grown g5 hW.2.size (fun k hk=>by cases hk;omega)
   have m:=Hh (aJo (v:=⟨s.extract 0 4,a,b,l,z⟩) HL.o.1 rfl (fun u hu=>ha.2 u hu HL.o.2.1) (fun u hu=>hb.2 u hu HL.o.2.2.1) xe.o (fun u hu=>hz.2 u hu HL.o.2.2.2))
   have xi:Hid (CO ⟨s.extract 0 4,a,b,l,z⟩):=Hh ⟨UA ha.1.1 ha.1.2,UA hb.1.1 hb.1.2,by have:=aDv (s.extract 6 10).data.toList;rw [←xe.o] at this;exact (UA (by omega) (by omega):wI l),UA hz.1.1 hz.1.2⟩
   have X:Hid (vtE ⟨s.extract 0 4,a,b,l,z⟩=0∨vtE ⟨s.extract 0 4,a,b,l,z⟩=2):=Hh (by unfold vtE;split;exact .inl rfl;exact .inr rfl)
   have W:=Hh (Ai k5 (Ai r5 B5));clear ha hb hz hA hW k5 g5 r5 B5 HL xe U FO N1 N2 N3 Q;unfold PZ at W;refine bQ _ rfl trivial ?_
   go_upto_region 4 with fail
   generalize ((((n.setCell ⟨p,0,none⟩ _).setCell ⟨p,1,none⟩ _).setCell ⟨p,2,none⟩ _).setCell ⟨p,3,none⟩ _).setCell ⟨p,4,none⟩ _=w5 at W ⊢;have TX:Hid (Calls prog 53 #[.agg #[.string (s.extract 0 4),Iz a,Iz b,Iz l,Iz z]] w5 (yM ⟨s.extract 0 4,a,b,l,z⟩ w5)):=Hh (oQ ⟨s.extract 0 4,a,b,l,z⟩ w5 xi.o (HT.o.below W.o.2.2));unfold yM at TX;have c5:=dQ W.o.1;obtain ⟨E,hE⟩:∃E,E=vtE ⟨s.extract 0 4,a,b,l,z⟩:=⟨_,rfl⟩;obtain ⟨S,hS⟩:∃S,S=vtS ⟨s.extract 0 4,a,b,l,z⟩:=⟨_,rfl⟩;rw [←hE] at m X TX;rw [←hS] at m TX;clear hE hS c4 f4 xi HT
   go_upto_region 5 with ((with_reducible refine (TX.o).mono ?_);rintro e w6 ⟨rfl,xa⟩)
   have k6:=(xa.block _ (Aa W.o.1)).trans W.o.1;have r6:=(xa.block _ (Aa W.o.2.1)).trans W.o.2.1;have B6:=Hh (W.o.2.2.trans (xa.mono W.o.2.2.size));have c6:=dQ k6;have d6:=dQ r6;have f6:=lN r6;have R6:=Hh r6;clear c5 TX W xa k6 r6;have xj:=X.o;rcases xj with rfl | rfl
   ·by_cases hq:S=s
    ·have e1:(S.toList == s.toList)=true:=by rw [hq];exact beq_self_eq_true _
     have e2:(S.toList != s.toList)=false:=by rw [bne,e1];rfl
     have HP:=Hh (m.o.1 rfl hq);clear hq m X
     go_wp2
     refine sZ (x0:=.string (s.extract 0 4)) (x1:=Iz a) (x2:=Iz b) (x3:=Iz l) (x4:=Iz z) (v:=Iz 0) R6.o rfl rfl rfl rfl ?_;exact ⟨by unfold pvV pvE;rw [HP.o];rfl,B6.o.grown (iS _ _ _ _ _ _ _) B6.o.size (fun k hk=>by cases hk;exact Lr _)⟩
    ·have e1:(S.toList == s.toList)=false:=by
      rw [Bm,Cj,Cj];intro e;exact hq (Cr (Cg.1 e))
     have e2:(S.toList != s.toList)=true:=by rw [bne,e1];rfl
     have HP:=Hh (m.o.2 (.inr hq));clear hq m X
     go_wp2
     refine sZ (x0:=.string ⟨#[]⟩) (x1:=Iz 0) (x2:=Iz 0) (x3:=Iz 0) (x4:=Iz 0) (v:=Iz 10) R6.o rfl rfl rfl rfl ?_;exact ⟨by unfold pvV pvE;rw [HP.o];rfl,B6.o.grown (iS _ _ _ _ _ _ _) B6.o.size (fun k hk=>by cases hk;exact Lr _)⟩
   ·have HP:=Hh (m.o.2 (.inl (by decide)))
    clear m X
    go_wp2
    refine sZ (x0:=.string ⟨#[]⟩) (x1:=Iz 0) (x2:=Iz 0) (x3:=Iz 0) (x4:=Iz 0) (v:=Iz 10) R6.o rfl rfl rfl rfl ?_;exact ⟨by unfold pvV pvE;rw [HP.o];rfl,B6.o.grown (iS _ _ _ _ _ _ _) B6.o.size (fun k hk=>by cases hk;exact Lr _)⟩
  ·skip
   refine aB _ rfl ?_ ?_
   ·refine aB _ rfl trivial ?_
    go_wp2_with fail
    refine Seg.mk ?_;have xd:=Hh (U.o.made);have J:=Hh (U.o.step ((Br _ _).alloc (o:=.cells #[.string ⟨#[]⟩,Iz 0,Iz 0,Iz 0,Iz 0] 58) (Lr _)));generalize xc.alloc _=xf at J xd ⊢;generalize xc.heap.size=p at xd ⊢;refine aB _ rfl trivial ?_
    go_wp2_with (go_at_call 85;(with_reducible refine (N1.o _ (Q.o.below J.o.b)).mono ?_);rintro e xb ⟨L,rfl,Y,T,y⟩)
    refine Seg.mk ?_;have t:=Hh (J.o.step y);have V:=Hh (xd.o.step y);have O:=Hh (Ai Y T);clear Y T;clear y;refine aB _ rfl trivial ?_
    go_wp2_with (go_at_call 85;(with_reducible refine (N2.o _ (Q.o.below t.o.b)).mono ?_);rintro e R ⟨H,rfl,G,I,A⟩)
    refine Seg.mk ?_;have r:=Hh (t.o.step A);have N:=Hh (V.o.step A);have M:=Hh (Ai G I);clear G I;clear A;refine aB _ rfl trivial ?_
    go_wp2_with (go_at_call 86;(with_reducible refine (FO.o _).mono ?_);rintro e P ⟨rfl,i⟩)
    refine Seg.mk ?_;have f:=Hh (r.o.step i);have C:=Hh (N.o.step i);clear i;refine aB _ rfl trivial ?_
    go_wp2_with (go_at_call 85;(with_reducible refine (N3.o _ (Q.o.below f.o.b)).mono ?_);rintro e Z ⟨D,rfl,j,g,c⟩)
    refine Seg.mk ?_;have x:=Hh (f.o.step c);have q:=Hh (C.o.step c);have B:=Hh (Ai j g);clear j g;clear c;refine aF _ ?_ rfl rfl ?_ (fun K F=>?_);rotate_left;(intro w0;go_simp;(try rfl));(go_simp;refine F _ ?_;clear F K)
    exact aN [.pointer (some ⟨p,0,none⟩),Iz L,Iz H,Iz l,Iz D,.agg #[.string (s.extract 0 4),Iz L,Iz H,Iz l,Iz D]] ⟨p,L,H,D,rfl,O.o,M.o,B.o,q.o,x.o⟩ rfl
   ·go_wp2_with (go_at_call 85;(with_reducible refine (N1.o _ (Q.o.below U.o.b)).mono ?_);rintro e xf ⟨L,rfl,Y,T,xh⟩)
    refine Seg.mk ?_;have J:=Hh (U.o.step xh);have O:=Hh (Ai Y T);clear Y T;clear xh;refine aB _ rfl ?_ ?_
    ·refine aB _ rfl trivial ?_
     go_wp2_with fail
     refine Seg.mk ?_;have V:=Hh (J.o.made);have t:=Hh (J.o.step ((Br _ _).alloc (o:=.cells #[.string ⟨#[]⟩,Iz 0,Iz 0,Iz 0,Iz 0] 58) (Lr _)));generalize xf.alloc _=xb at t V ⊢;generalize xf.heap.size=p at V ⊢;refine aB _ rfl trivial ?_
     go_wp2_with (go_at_call 85;(with_reducible refine (N2.o _ (Q.o.below t.o.b)).mono ?_);rintro e R ⟨H,rfl,G,I,A⟩)
     refine Seg.mk ?_;have r:=Hh (t.o.step A);have N:=Hh (V.o.step A);have M:=Hh (Ai G I);clear G I;clear A;refine aB _ rfl trivial ?_
     go_wp2_with (go_at_call 86;(with_reducible refine (FO.o _).mono ?_);rintro e P ⟨rfl,i⟩)
     refine Seg.mk ?_;have f:=Hh (r.o.step i);have C:=Hh (N.o.step i);clear i;refine aB _ rfl trivial ?_
     go_wp2_with (go_at_call 85;(with_reducible refine (N3.o _ (Q.o.below f.o.b)).mono ?_);rintro e Z ⟨D,rfl,j,g,c⟩)
     refine Seg.mk ?_;have x:=Hh (f.o.step c);have q:=Hh (C.o.step c);have B:=Hh (Ai j g);clear j g;clear c;refine aF _ ?_ rfl rfl ?_ (fun K F=>?_);rotate_left;(intro w0;go_simp;(try rfl));(go_simp;refine F _ ?_;clear F K)
     exact aN [.pointer (some ⟨p,0,none⟩),Iz L,Iz H,Iz l,Iz D,.agg #[.string (s.extract 0 4),Iz L,Iz H,Iz l,Iz D]] ⟨p,L,H,D,rfl,O.o,M.o,B.o,q.o,x.o⟩ rfl
    ·go_wp2_with (go_at_call 85;(with_reducible refine (N2.o _ (Q.o.below J.o.b)).mono ?_);rintro e xb ⟨H,rfl,G,I,y⟩)
     refine Seg.mk ?_;have t:=Hh (J.o.step y);have M:=Hh (Ai G I);clear G I;clear y;refine aB _ rfl ?_ ?_
     ·refine aB _ rfl trivial ?_
      go_wp2_with fail
      refine Seg.mk ?_;have N:=Hh (t.o.made);have r:=Hh (t.o.step ((Br _ _).alloc (o:=.cells #[.string ⟨#[]⟩,Iz 0,Iz 0,Iz 0,Iz 0] 58) (Lr _)));generalize xb.alloc _=R at r N ⊢;generalize xb.heap.size=p at N ⊢;refine aB _ rfl trivial ?_
      go_wp2_with (go_at_call 86;(with_reducible refine (FO.o _).mono ?_);rintro e P ⟨rfl,i⟩)
      refine Seg.mk ?_;have f:=Hh (r.o.step i);have C:=Hh (N.o.step i);clear i;refine aB _ rfl trivial ?_
      go_wp2_with (go_at_call 85;(with_reducible refine (N3.o _ (Q.o.below f.o.b)).mono ?_);rintro e Z ⟨D,rfl,j,g,c⟩)
      refine Seg.mk ?_;have x:=Hh (f.o.step c);have q:=Hh (C.o.step c);have B:=Hh (Ai j g);clear j g;clear c;refine aF _ ?_ rfl rfl ?_ (fun K F=>?_);rotate_left;(intro w0;go_simp;(try rfl));(go_simp;refine F _ ?_;clear F K)
      exact aN [.pointer (some ⟨p,0,none⟩),Iz L,Iz H,Iz l,Iz D,.agg #[.string (s.extract 0 4),Iz L,Iz H,Iz l,Iz D]] ⟨p,L,H,D,rfl,O.o,M.o,B.o,q.o,x.o⟩ rfl
     ·go_wp2_with (go_at_call 86;(with_reducible refine (FO.o _).mono ?_);rintro e R ⟨rfl,A⟩)
      refine Seg.mk ?_;have r:=Hh (t.o.step A);clear A;refine aB _ rfl ?_ ?_
      ·refine aB _ rfl trivial ?_
       go_wp2_with fail
       refine Seg.mk ?_;have C:=Hh (r.o.made);have f:=Hh (r.o.step ((Br _ _).alloc (o:=.cells #[.string ⟨#[]⟩,Iz 0,Iz 0,Iz 0,Iz 0] 58) (Lr _)));generalize R.alloc _=P at f C ⊢;generalize R.heap.size=p at C ⊢;refine aB _ rfl trivial ?_
       go_wp2_with (go_at_call 85;(with_reducible refine (N3.o _ (Q.o.below f.o.b)).mono ?_);rintro e Z ⟨D,rfl,j,g,c⟩)
       refine Seg.mk ?_;have x:=Hh (f.o.step c);have q:=Hh (C.o.step c);have B:=Hh (Ai j g);clear j g;clear c;refine aF _ ?_ rfl rfl ?_ (fun K F=>?_);rotate_left;(intro w0;go_simp;(try rfl));(go_simp;refine F _ ?_;clear F K)
       exact aN [.pointer (some ⟨p,0,none⟩),Iz L,Iz H,Iz l,Iz D,.agg #[.string (s.extract 0 4),Iz L,Iz H,Iz l,Iz D]] ⟨p,L,H,D,rfl,O.o,M.o,B.o,q.o,x.o⟩ rfl
      ·go_wp2_with (go_at_call 85;(with_reducible refine (N3.o _ (Q.o.below r.o.b)).mono ?_);rintro e P ⟨D,rfl,j,g,i⟩)
       refine Seg.mk ?_;have f:=Hh (r.o.step i);have B:=Hh (Ai j g);clear j g;clear i;refine aF _ ?_ rfl rfl ?_ (fun K F=>?_);rotate_left;(intro w0;go_simp;(try rfl));(go_simp;refine F _ ?_;clear F K)
       refine aB _ rfl trivial ?_
       go_wp2_with fail
       refine Seg.mk ?_;have q:=Hh (f.o.made);have x:=Hh (f.o.step ((Br _ _).alloc (o:=.cells #[.string ⟨#[]⟩,Iz 0,Iz 0,Iz 0,Iz 0] 58) (Lr _)));generalize P.alloc _=Z at x q ⊢;generalize P.heap.size=p at q ⊢;exact aN [.pointer (some ⟨p,0,none⟩),Iz L,Iz H,Iz l,Iz D,.agg #[.string (s.extract 0 4),Iz L,Iz H,Iz l,Iz D]] ⟨p,L,H,D,rfl,O.o,M.o,B.o,q.o,x.o⟩ rfl
 ·have HP:=Hh (aJn hs)
  have q1:((s.size:Int) != 17)=true:=by simp;omega
  have q2:((s.size:Int) == 17)=false:=by simp;omega
  clear hs hT hE
  go_enter func51,ntmps51
  go_upto_region 1 with fail
  generalize w.alloc _=w1 at b0 k0 ⊢;have f0:=lN k0;have c0:=dQ k0;have K0:=Hh k0;have B0:=Hh b0;clear k0 b0
  go_wp2
  refine sZ (x0:=.string ⟨#[]⟩) (x1:=Iz 0) (x2:=Iz 0) (x3:=Iz 0) (x4:=Iz 0) (v:=Iz 10) K0.o rfl rfl rfl rfl ?_;exact ⟨by unfold pvV pvE;rw [HP.o];rfl,B0.o.grown (iS _ _ _ _ _ _ _) B0.o.size (fun k hk=>by cases hk;exact Lr _)⟩
theorem aEf {l:Ub} {j:Nat} {v:VD} (d:j≤24) (a:j+17≤l.length) (b:eO l 25 0=eO l (25 - j) j) (c:eZ ((l.drop j).take 17)=some v):eO l 25 0=some (v,j):=by
 rw [b,show 25 - j=(24 - j)+1 by omega,eO,Am a,c]
theorem ZN {l:Ub} {j:Nat} (d:j≤24) (a:j+17≤l.length) (b:eO l 25 0=eO l (25 - j) j) (c:eZ ((l.drop j).take 17)=none):eO l 25 0=eO l (25 - (j+1)) (j+1):=by
 rw [b,show 25 - j=(24 - j)+1 by omega,eO,Am a,c,show 25 - (j+1)=24 - j by omega]
theorem aEg {l:Ub} {j:Nat} (h:j=25∨l.length<j+17) (b:eO l 25 0=eO l (25 - j) j):eO l 25 0=none:=by
 rw [b];rcases Cf j 25 with a | a
 ·rw [show 25 - j=(24 - j)+1 by omega,eO,Ae (by omega)]
 ·rw [show 25 - j=0 by omega];rfl
theorem UX {l:Ub} (h:eO l 25 0=none):fdV l=v0∧fdP l=0∧fdE l=10:=by
 unfold fdV fdP fdE;rw [h];exact ⟨rfl,rfl,rfl⟩
theorem UW {l:Ub} {v:VD} {j:Nat} (h:eO l 25 0=some (v,j)):fdV l=v∧fdP l=(j:Int)∧fdE l=0:=by
 unfold fdV fdP fdE;rw [h];exact ⟨rfl,rfl,rfl⟩
theorem aBu (l:Ub):(∃v,eZ l=some v∧pvV l=v∧pvE l=0)∨(eZ l=none∧pvV l=v0∧pvE l=10):=by
 unfold pvV pvE;cases eZ l with
 | none=>exact .inr ⟨rfl,rfl,rfl⟩
 | some v=>exact .inl ⟨v,rfl,rfl,rfl⟩
def aFz (s:Bt) (w:World) (e:Ending) (w':World):Prop:=e=.returned (.tuple #[.agg (vcs (fdV s.data.toList)),Iz (fdP s.data.toList),Iz (fdE s.data.toList)])∧Below w.heap.size w w'
theorem EK {f:Func} {Q:Ending→World→Prop} {a:Act} {w:World} {g c s i:Nat} {x0 x1 x2 x3 x4 v v2 m t n o r:Value} (h:w.heap[g]?=some (.cells #[m,t,n,o,r] 58 (0,0))) (d:f.results=#[.cell c 58,.tmp s,.tmp i]) (e:a.tmps.getD c undef=.pointer (some ⟨g,0,none⟩)) (j:a.tmps.getD s undef=v) (b:a.tmps.getD i undef=v2) (y:a.defers=[])
 (l:Q (.returned (.tuple #[.agg #[x0,x1,x2,x3,x4],v,v2])) (PZ w g x0 x1 x2 x3 x4)):bodyPost prog f Q .ret a (PZ w g x0 x1 x2 x3 x4):=by
 refine Au (v:=.tuple #[.agg #[x0,x1,x2,x3,x4],v,v2]) ?_ y l;obtain ⟨x,p,u,q,k⟩:=dQ (BH h x0 x1 x2 x3 x4);obtain ⟨A,z⟩:=a;simp only [Array.getD_eq_getD_getElem?] at e j b;simp [results,d,go_sem,e,j,b,x,p,u,q,k]
theorem WF (s:Bt) (w:World) (hs:s.size≤1000000) (hT:DB w) (P:CP w):Calls prog 27 #[.string s] w (aFz s w):=by
 have X:s.data.toList.length=s.size:=by rw [Ah];rfl
 have PA:Hid (∀ (t:Bt) (A:World),Below w.heap.size w A→Calls prog 51 #[.string t] A (JL t A)):=Hh fun t A Z=>PL t A (hT.below Z) (P.below Z)
 have HL:=Hh X;clear hT P X
 go_enter func27,ntmps27
 go_upto_region 1 with fail
 generalize B:w.alloc _=w1;obtain ⟨R,N⟩:=Al B;clear B;have HW:Hid (PW w w1):=Hh ⟨N,R⟩;clear R N
 go_upto_region 2 with fail
 obtain ⟨M,Q⟩:∃M:Int,M=min 24 ((s.size:Int) - 17)+1:=⟨_,rfl⟩;rw [←Q];have I:Hid (M≤25∧(∀j:Nat,(j:Int)<M→j≤24∧j+17≤s.size)∧∀j:Nat,¬ (j:Int)<M→j=0∨(j:Int)≤M→j=25∨s.size<j+17):=Hh ⟨by omega,fun j h=>by omega,fun j h k=>by omega⟩
 have L:M≤25:=I.o.1;clear Q
 go_loopw [5,6,7,13] (fun _ _ _ J wr=>∃j:Nat,J=Iz (j:Int)∧(j=0∨(j:Int)≤M)∧Hid (eO s.data.toList 25 0=eO s.data.toList (25 - j) j)∧PW w wr) (fun _ _ _ J _=>26 - (intOf J).toNat)
 case atStart=>exact ⟨0,rfl,.inl rfl,Hh rfl,HW.o⟩
 case round=>
  obtain ⟨j,rfl,x,d,m⟩:=hrel
  by_cases U:(j:Int)<M
  ·obtain ⟨C,D⟩:=I.o.2.1 j U
   have G:=Hh (Ai C D);have xa:(j:Int)+17≤(s.size:Int):=by omega
   have xb:(0:Int)≤(j:Int):=by omega
   have O:(j:Int)<25:=by omega
   have n:Hid (Calls prog 51 #[.string (s.extract j (j+17))] wr (JL (s.extract j (j+17)) wr)):=Hh (PA.o _ wr m.2);unfold JL at n;have S:(s.extract j (j+17)).data.toList=(s.data.toList.drop j).take 17:=by rw [lM,show j+17 - j=17 by omega]
   rw [S] at n;have q:=Hh (aBu ((s.data.toList.drop j).take 17));generalize pvE ((s.data.toList.drop j).take 17)=E at n q;generalize pvV ((s.data.toList.drop j).take 17)=V at n q;unfold vcs at n;have u:=Hh m;clear S m C D
   go_upto_region 5 with ((with_reducible refine (n.o).mono ?_);rintro e H ⟨rfl,F⟩)
   have l:=Hh (u.o.step F);generalize B:H.alloc _=w4;obtain ⟨Y,T⟩:=Al B;clear B;have i:=l.o.step Y;have c4:=dQ T;have f4:=lN i.1;have d4:=dQ i.1;have c:=Hh i;have r:w.heap.size<H.heap.size:=Aa l.o.1;generalize H.heap.size=g4 at c4 r ⊢;clear F u l Y T i n r;rcases q.o with ⟨v,y,rfl,rfl⟩ | ⟨y,rfl,rfl⟩
   ·have g:=Hh (UW (aEf G.o.1 (by rw [HL.o];exact G.o.2) d.o y))
    clear q y d
    go_wp2
    refine EK (x0:=.string V.p) (x1:=Iz V.a) (x2:=Iz V.b) (x3:=Iz V.f) (x4:=Iz V.z) (v:=Iz (j:Int)) (v2:=Iz 0) c.o.1 rfl rfl rfl rfl rfl ?_;exact ⟨by rw [g.o.1,g.o.2.1,g.o.2.2];rfl,c.o.2.grown (iS _ _ _ _ _ _ _) c.o.2.size (fun k K=>by cases K;exact Lr _)⟩
   ·have g:=Hh (ZN G.o.1 (by rw [HL.o];exact G.o.2) d.o y)
    have W:(j:Int)+1≤M:=by omega
    clear q y d
    go_wp2
    go_roundw
    case rel=>exact ⟨j+1,by go_num,.inr (by omega),g,c.o⟩
    case measure=>simp [intOf];omega
  ·have g:=Hh (UX (aEg (by have:=I.o.2.2 j U x;rw [HL.o];exact this) d.o))
   have f4:=lN m.1;have d4:=dQ m.1;have c:=Hh m;clear d m x
   go_wp2
   refine EK (x0:=.string ⟨#[]⟩) (x1:=Iz 0) (x2:=Iz 0) (x3:=Iz 0) (x4:=Iz 0) (v:=Iz 0) (v2:=Iz 10) c.o.1 rfl rfl rfl rfl rfl ?_;exact ⟨by rw [g.o.1,g.o.2.1,g.o.2.2];rfl,c.o.2.grown (iS _ _ _ _ _ _ _) c.o.2.size (fun k K=>by cases K;exact Lr _)⟩
end Go.Proofs.YtncdpanfefnjlaaGreatDoor
namespace Go.Proofs.YtncdpanfefnjlaaGreatDoor
open Go.Proofs.Tryz
open Go
theorem aFa {l:Ub} {j:Nat} {c:UInt8} (a:l[j]?=some c) (b:c.toNat<65∨90<c.toNat):eZ ((l.drop j).take 17)=none:=by
 refine XM (TF (i:=0) (c:=c) ?_ (by omega))
 rw [Dn,Am (by decide),Dn,Am (by decide),List.getElem?_drop]
 exact a
theorem aHx {a rest:Ub} {v:VD} (d:aY v=true) (g:a.length≤24) (e:∀c,c ∈ a→c.toNat<65∨90<c.toNat):eO (a++(fS v++rest)) 25 0=some (v,a.length):=by
 have i:(a++(fS v++rest)).length=a.length+(17+rest.length):=by rw [Lg,Lg,gG d]
 have h:=BJ (a++(fS v++rest)) a.length (25 - a.length) 0 (fun j _ f=>by
  have b:j<a.length:=by omega
  exact aFa (c:=a[j]) (by rw [Cs b,Ac b]) (e _ (Du b))) (by omega)
 rw [show a.length+(25 - a.length)=25 by omega] at h
 rw [h,show 25 - a.length=(24 - a.length)+1 by omega,eO,Am (by omega),Ca,List.drop_left,List.take_append_of_le_length (by rw [gG d];exact Lr _),Ak (by rw [gG d];exact Lr _),AH d]
theorem JW {d c:Type}:∀L:List (d × c),(L.map (·.1)).zip (L.map (·.2))=L
 | []=>rfl
 | (a,b)::L=>by simpa using JW L
theorem YP (n:ND) (t:Bt):cN (bJ n t).names (bJ n t).items=cN n.names n.items:=by
 have e:cN (bJ n t).names (bJ n t).items=List.filter (fun q=>decide (q.1 ≠ sV)) ((sV,tN t)::((cN n.names n.items).map (·.1)).zip ((cN n.names n.items).map (·.2))):=rfl
 rw [e,JW,List.filter_cons_of_neg (by simp)]
 unfold cN;rw [List.filter_filter];simp
theorem uP (n:ND) (t u:Bt):bJ (bJ n t) u=bJ n u:=by
 have h:=YP n t;have e:bJ (bJ n t) u=.mk 5 false 0 ⟨#[]⟩ (sV::(cN (bJ n t).names (bJ n t).items).map (·.1)) (tN u::(cN (bJ n t).names (bJ n t).items).map (·.2)):=rfl;rw [e,h]
 rfl
theorem ZM (n:ND) (p:Bt) (k:Int):vfZ (bI n p k) p k=vfZ n p k∧bI (bI n p k) p k=bI n p k:=by
 have a:vfZ (bI n p k) p k=vfZ n p k:=by
  have:bJ (bI n p k) (fL p k 0)=bJ n (fL p k 0):=uP n _ _;unfold vfZ;rw [this]
 refine ⟨a,?_⟩;have b:bI (bI n p k) p k=bJ (bI n p k) (fL p k (vfZ (bI n p k) p k)):=rfl;rw [b,a];exact uP n _ _
structure CS (n:ND) (p:Bt) (k:Int):Prop where
 e1:gA n p k=0
 kit:FoK k (bI n p k)
 draft:FoK k (bJ n (fL p k 0))
 ok:CU (bI n p k)
 e2:gA (bI n p k) p k=0
 again:bI (bI n p k) p k=bI n p k
 size:((foS k (bI n p k)).size:Int)=vfZ n p k
 val:aY ⟨p,1,0,k,vfZ n p k⟩=true
 cost:bK 8 (bI n p k)≤65000
theorem aEb {n:ND} {p:Bt} {k:Int} (o:eS 8 n=true) (y:bK 8 n≤64800) (l:n.kind=5) (A:n.items.length≤255) (b:aY ⟨p,1,0,k,0⟩=true):CS n p k:=by
 have g:=eF o;have F:CU n:=⟨fI o,by omega⟩
 have B:=mM n.names n.items;have d:(cN n.names n.items).length+1≤256:=by omega
 have c:cO 7 n:=(cK l).1 g;have w:=rI (q:=6) c.len b;have v0:aC 8 (bJ n (fL p k 0))=true:=(cK rfl).2 (yW c (by decide) (uQ b) d)
 have a:1≤k∧k≤3:=by have:=(dF b).2.1;simp only at this;omega
 have t:FoK k (bJ n (fL p k 0)):=⟨a.1,a.2,v0,gT F.1,by have:=aAo (k:=k) v0 (gT F.1);have x:bK 8 (bJ n (fL p k 0))≤bK 8 n+141:=w;omega⟩
 rcases vN n p k (fun _ _=>F.1) with ⟨j,-⟩ | ⟨-,r,-⟩ | ⟨z,u,-,-,-,-,m,-⟩ | ⟨-,-,-,-,h,f,i,v,s⟩
 ·rw [b] at j;cases j
 ·exact absurd ⟨l,g⟩ r
 ·rw [t.err.1] at m
  rcases u with ⟨-,rfl⟩ | ⟨-,rfl⟩ <;> cases m
 ·refine ⟨s,i,h,⟨gT F.1,?_⟩,?_,(ZM n p k).2,by rw [v];rfl,f,?_⟩
  ·have c1:=rI (q:=6) c.len f
   exact Af (show bK 8 (bI n p k)≤bK 8 n+141 from c1) (by omega)
  ·have e:gA (bI n p k) p k=if aY ⟨p,1,0,k,0⟩ then (if (bI n p k).kind=5∧aC 8 (bI n p k)=true then foE k (bJ (bI n p k) (fL p k 0)) else 1) else 2:=rfl
   rw [e,b,Am rfl,Am ⟨rfl,i.valid⟩,show bJ (bI n p k) (fL p k 0)=bJ n (fL p k 0) from uP n _ _]
   exact h.err.1
  ·have c1:=rI (q:=6) c.len f
   exact Af (show bK 8 (bI n p k)≤bK 8 n+141 from c1) (by omega)
theorem CS.find {n:ND} {p:Bt} {k:Int} (h:CS n p k) (g:n.items.length≤14):∃a r:Ub,a.length≤6∧(foS k (bI n p k)).data.toList=a++(fS ⟨p,1,0,k,vfZ n p k⟩++r)∧eO (foS k (bI n p k)).data.toList 25 0=some (⟨p,1,0,k,vfZ n p k⟩,a.length):=by
 have f:=mM n.names n.items;obtain ⟨a,r,c,e,d⟩:=KM k n (by omega)
 have b:(foS k (bI n p k)).data.toList=a++(fS ⟨p,1,0,k,vfZ n p k⟩++r):=by rw [h.kit.err.2];exact d _ h.val
 refine ⟨a,r,e,b,?_⟩;rw [b];exact aHx h.val (by omega) (c (by omega))
end Go.Proofs.YtncdpanfefnjlaaGreatDoor