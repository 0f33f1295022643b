import Derived.Test.YtncdpanfefnjlaaGreatDoorCwt
import Derived.Test.YtncdpanfefnjlaaGreatDoorNget
set_option linter.unusedVariables false
set_option linter.unusedSimpArgs false
set_option maxHeartbeats 12800000
set_option maxRecDepth 100000
namespace Go.Proofs.YtncdpanfefnjlaaGreatDoor
open Go.Proofs.Tryz
open Go Go.ChangeShapes Go.WideShapes Go.ChangeAt Go.RowKit Go.Shelf
attribute [local go_sem] Oper.semAt_some
abbrev pV (D d:Nat) (S:Nat→Prop) (w:World):={ p:Vl × ND // aD D S w p.1 p.2∧aC d p.2=true∧aP d p.2=true }
def jH {D d:Nat} {S:Nat→Prop} {w:World} (l:List (pV D d S w)):List ND:=l.map fun p=>p.1.2
theorem jW {D d:Nat} {S:Nat→Prop} {w:World} (l:List (pV D d S w)) (p:pV D d S w):jH (l++[p])=jH l++[p.1.2]:=by simp [jH]
theorem LW {D d:Nat} {S:Nat→Prop} {k z:Int} {bb:Bool} {t:Bt} {a1 a2:Option Addr} {l1 c1 l2 c2:Nat} (its:List ND) (m:World) {g b1:Nat} (hS:∀b,S b→b<g) (H:b1 ≠ g)
 (s:m.heap[b1]?=some (.cells #[Iz k,.bool bb,Iz z,.string t,.slice a1 l1 c1,.slice a2 l2 c2] 28 (0,0))) (xg:k ≠ 5) (K:cE (aD D S m) S m (.slice a2 l2 c2) its) (hv:∀y,y ∈ its→aC d y=true∧aP d y=true) (xj:its.length≤256) (R:g<m.heap.size) (n:Nat) (xn:1≤n)
 (l:Nat) (J Jx:List (pV D d S m)→World→Prop) (W:World) (hW:Below m.heap.size m W) (hJ:AbidesFrom W.heap.size J)
 (hY:∀a x W1,J a W1→a.length<600→YieldAt Fence.wide (n - 1) prog l #[.agg x.1.1.toArray] W1 fun e M=>(e=.returned (.bool true)∧J (a++[x]) M∧KpC g W1 M)∨(e=.returned (.bool false)∧Jx (a++[x]) M)) (h0:J [] W) :
 CallsIn Fence.wide n prog 195 #[.func (.yield l) #[] #[],.pointer (some ⟨b1,0,none⟩)] W fun e M=>(∃v,e=.returned v)∧((∃xs,jH xs=its∧J xs M)∨(∃a,jH a <+: its∧Jx a M)):=by
 have C:=(hW.block b1 (Aa s)).trans s;have xd:g<W.heap.size:=Ll R hW.size;obtain ⟨ai,ci,ei,-,-,-⟩:=id K;have xe:l2=its.length:=by cases ei;rfl
 subst xe;clear ei;have HI:=Hh K;have HV:=Hh hv;have HB:=Hh s;have HW:=Hh hW;have HJ:=Hh hJ;have HY:=Hh hY;have HS:=Hh hS;have HK:=Hh C;have ck:=aA C;clear K hv s hW hJ hY hS C;refine callsIn_of_wp func195 rfl trivial ?_ rfl;simp only [ntmps195,Eb,Ag,Bz,Nat.reduceAdd,Nat.reduceSub,Array.replicate_succ,Array.replicate_zero,List.push_toArray,List.append_toArray,Ds,Bo]
 gi_wp2
 gi_loopw [8] (fun i wr=>∃ (j:Nat),j≤its.length∧i=Iz (j:Int)∧(∃a:List (pV D d S m),jH a=its.take j∧J a wr)∧KpC g W wr) (fun i _=>its.length - (intOf i).toNat)
 case atStart=>exact ⟨0,Av _,rfl,⟨[],rfl,h0⟩,KpW.refl _ _ _⟩
 case round=>
  obtain ⟨j,hj,rfl,⟨a,c,E⟩,f⟩:=hrel;have G:a.length=j:=by
   have:=Ad List.length c;rw [Bc] at this;simp [jH] at this;omega
  have V:=Hh c;have xm:=Hh G;have N:=Hh f;have xo:=aA (f.2 _ _ _ _ H tnu HK.o)
  by_cases xa:j<its.length
  ·have Y:(j:Int)<(its.length:Int):=by omega
   have xp:(0:Int)≤(j:Int):=by omega
   obtain ⟨-,-,-,b,u,y,a3,l3,c3,a4,l4,c4,rfl,xi,hx,Q,k0,k1,k2,k3,k4,k5⟩:=HI.o.at xa;have X:=HS.o b xi;have I:∀q v,m.cell? ⟨b,u+j * 6+q,none⟩=some v→wr.cell? ⟨b,u+j * 6+q,none⟩=some v:=fun q v hq=>(N.o.1.cell (p:=⟨b,u+j * 6+q,none⟩) X).trans ((HW.o.cell (p:=⟨b,u+j * 6+q,none⟩) (Cm X R)).trans hq)
   have q0:=I 0 _ k0;have q1:=I 1 _ k1;have q2:=I 2 _ k2;have q3:=I 3 _ k3;have q4:=I 4 _ k4;have q5:=I 5 _ k5;rw [Nat.add_zero] at q0;have T:=HV.o y (Ao hx);have xf:g≤wr.heap.size:=Af (Bw xd) f.1.size;have O:J a (wr.alloc (.cells (Na y a3 l3 c3 a4 l4 c4) 28)):=HJ.o a wr _ none E (World.grownBy_alloc wr _ none) (fun r e=>by cases e)
   have F:KpC g wr (wr.alloc (.cells (Na y a3 l3 c3 a4 l4 c4) 28)):=KpW.below ((Br _ _).alloc (Lr _) _) xf;obtain ⟨px,B⟩:∃px:pV D d S m,px.1=((Nc y a3 l3 c3 a4 l4 c4),y):=⟨⟨_,Q,T⟩,rfl⟩;obtain ⟨fn,tmps,assign,body,hy,hR⟩:=HY.o a px _ O (by omega)
   have P:Hid (jH (a++[px])=its.take (j+1)):=Hh (by rw [jW,B,c,Bf,hx];rfl)
   have xk:(k == 5)=false:=by simpa using xg
   rw [B] at hy;simp only [List.toArray] at hy;have xl:=aA (F.2 _ _ _ _ H tnu (f.2 _ _ _ _ H tnu HK.o));have xb:=Hh F;have L:=Hh hR;clear k0 k1 k2 k3 k4 k5 I c G E f O F hR hx T B Q ck
   gi_wp2
   refine ⟨trivial,?_⟩
   gi_wp2
   refine ⟨fun _ h=>(by cases h),?_⟩
   gi_wp2
   refine L.out.mono ?_;rintro e W3 (⟨rfl,U,Z⟩ | ⟨rfl,w⟩)
   ·have A:=Hh U
    have xh:=Hh Z;clear U Z L
    gi_wp2
    go_roundw
    case rel=>exact ⟨j+1,by omega,by go_num,⟨_,P.o,A.o⟩,N.o.trans (xb.o.trans xh.o)⟩
    case measure=>simp [intOf];omega
   ·have A:=Hh w
    clear w L
    gi_wp2
    refine Au (results_none rfl _ _ _) rfl ?_;exact ⟨⟨_,rfl⟩,.inr ⟨_,⟨_,by rw [P.o];exact De _ _⟩,A.o⟩⟩
  ·have xc:its.take j=its:=Ak (by omega)
   have Y:¬ (j:Int)<(its.length:Int):=by omega
   clear c G f ck
   gi_wp2
   go_end0
   exact ⟨⟨_,rfl⟩,.inl ⟨a,by rw [V.o,xc],E⟩⟩
theorem WG {d:Nat} {s:Bt} (h:aZ s=true):aC (d+1) (txC s)=true∧aP (d+1) (txC s)=true:=by
 refine ⟨?_,by rw [cS];rfl⟩
 rw [cV];unfold fC txC;simp [h,ND.kind,ND.bool,ND.num,ND.text,ND.names,ND.items]
theorem QQ {D d:Nat} {S:Nat→Prop} {z:Int} {bb:Bool} {t:Bt} {a1 a2:Option Addr} {l1 c1 l2 c2:Nat} (ns:List Bt) (its:List ND) (h:World) {g b1:Nat} (hS:∀b,S b→b<g) (xa:b1 ≠ g)
 (O:h.heap[b1]?=some (.cells #[Iz 5,.bool bb,Iz z,.string t,.slice a1 l1 c1,.slice a2 l2 c2] 28 (0,0))) (yt:bH S h (.slice a1 l1 c1) ns) (xd:cE (aD D S h) S h (.slice a2 l2 c2) its) (y2:ns.length=its.length) (xz:∀s,s ∈ ns→aZ s=true) (hv:∀y,y ∈ its→aC d y=true∧aP d y=true) (xk:its.length≤256) (R:g<h.heap.size) (n:Nat) (y3:1≤n)
 (l:Nat) (J Jx:List (pV D d S h)→World→Prop) (W:World) (hW:Below h.heap.size h W) (hJ:AbidesFrom W.heap.size J)
 (hY:∀a x W1,J a W1→a.length<600→YieldAt Fence.wide (n - 1) prog l #[.agg x.1.1.toArray] W1 fun e W'=>(e=.returned (.bool true)∧J (a++[x]) W'∧KpC g W1 W')∨(e=.returned (.bool false)∧Jx (a++[x]) W')) (h0:J [] W) :
 CallsIn Fence.wide n prog 195 #[.func (.yield l) #[] #[],.pointer (some ⟨b1,0,none⟩)] W fun e W'=>(∃v,e=.returned v)∧((∃xs,jH xs=(List.zipWith (fun s y=>[txC s,y]) ns its).flatten∧J xs W')∨(∃a,jH a <+: (List.zipWith (fun s y=>[txC s,y]) ns its).flatten∧Jx a W')):=by
 have N:=(hW.block b1 (Aa O)).trans O;have yn:g<W.heap.size:=Ll R hW.size;obtain ⟨ai,ci,ei,-,-,-⟩:=id xd;have yo:l2=its.length:=by cases ei;rfl
 subst yo;clear ei;obtain ⟨an,cn,en,y5,y4,xg⟩:=yt;have yv:l1=ns.length∧a1=an:=by cases en;exact ⟨rfl,rfl⟩
 obtain ⟨rfl,rfl⟩:=yv;clear en;obtain ⟨Q,hQ⟩:∃Q,Q=(List.zipWith (fun s y=>[txC s,y]) ns its).flatten:=⟨_,rfl⟩
 have HQ:=Hh hQ;rw [←hQ];have yf:Q.length≤512:=by
  have:=GU (.mk 5 false 0 ⟨#[]⟩ ns its) xk;rw [hQ];exact this
 have xo:∀j,(Q.take (2 * j)).length≤512:=fun j=>by rw [Bc];omega
 have k:Q.take (2 * its.length)=Q:=by
  refine Ak ?_;rw [hQ];have:∀ (ns:List Bt) (its:List ND),((List.zipWith (fun s y=>[txC s,y]) ns its).flatten).length≤2 * its.length:=by
   intro ns
   induction ns with
   | nil=>intro its;simp
   | cons s t ih=>
    intro its;cases its with
    | nil=>simp
    | cons y u=>
     rw [Bh,Bv,Lg,Ag];have:=ih u;simp at *;omega
  exact this ns its
 have xj:=Hh (Ai xo k);have HN:=Hh xg;have yr:=Hh xz;have HI:=Hh xd;have HV:=Hh hv;have HW:=Hh hW;have HJ:=Hh hJ;have HY:=Hh hY;have HS:=Hh hS;have HK:=Hh N;have ck:=aA N;clear xd hv O hW hJ hY hS N xg xz hQ xo k yf;refine callsIn_of_wp func195 rfl trivial ?_ rfl;simp only [ntmps195,Eb,Ag,Bz,Nat.reduceAdd,Nat.reduceSub,Array.replicate_succ,Array.replicate_zero,List.push_toArray,List.append_toArray,Ds,Bo]
 gi_wp2
 gi_loopw [8] (fun i wr=>∃ (j:Nat),j≤its.length∧i=Iz (j:Int)∧(∃a:List (pV D d S h),jH a=Q.take (2 * j)∧J a wr)∧KpC g W wr) (fun i _=>its.length - (intOf i).toNat)
 case atStart=>exact ⟨0,Av _,rfl,⟨[],rfl,h0⟩,KpW.refl _ _ _⟩
 case round=>
  obtain ⟨j,hj,rfl,⟨a,c,U⟩,f⟩:=hrel;have V:a.length≤512:=by
   have:=Ad List.length c;have h2:=xj.o.1 j;simp only [jH,Bk] at this;omega
  have ya:=Hh c;have xv:=Hh V;have L:=Hh f;have ys:=aA (f.2 _ _ _ _ xa tnu HK.o)
  by_cases yi:j<its.length
  ·have yd:(j:Int)<(its.length:Int):=by omega
   have y0:(j:Int)<(ns.length:Int):=by omega
   have y6:(0:Int)≤(j:Int):=by omega
   obtain ⟨-,-,-,b,F,y,a3,l3,c3,a4,l4,c4,rfl,yw,hx,P,k0,k1,k2,k3,k4,k5⟩:=HI.o.at yi;obtain ⟨w,C⟩:∃s,ns[j]?=some s:=⟨_,Ac (by omega)⟩
   obtain ⟨bn,on,yh,xp,x9,xh⟩:=HN.o j w C;subst yh;have yc:=HS.o b yw;have m:=HS.o bn xp;have cc:∀q v,h.cell? ⟨b,F+j * 6+q,none⟩=some v→wr.cell? ⟨b,F+j * 6+q,none⟩=some v:=fun q v hq=>(L.o.1.cell (p:=⟨b,F+j * 6+q,none⟩) yc).trans ((HW.o.cell (p:=⟨b,F+j * 6+q,none⟩) (Cm yc R)).trans hq)
   have q0:=cc 0 _ k0;have q1:=cc 1 _ k1;have q2:=cc 2 _ k2;have q3:=cc 3 _ k3;have q4:=cc 4 _ k4;have q5:=cc 5 _ k5;rw [Nat.add_zero] at q0;have I:wr.cell? ⟨bn,on+j,none⟩=some (.string w):=(L.o.1.cell (p:=⟨bn,on+j,none⟩) m).trans ((HW.o.cell (p:=⟨bn,on+j,none⟩) (Cm m R)).trans x9);have Z:=HV.o y (Ao hx);have x8:g≤wr.heap.size:=Af (Bw yn) f.1.size;have xl:J a (wr.alloc (.cells (Na y a3 l3 c3 a4 l4 c4) 28)):=HJ.o a wr _ none U (World.grownBy_alloc wr _ none) (fun r e=>by cases e)
   have E:KpC g wr (wr.alloc (.cells (Na y a3 l3 c3 a4 l4 c4) 28)):=KpW.below ((Br _ _).alloc (Lr _) _) x8;have xm:=Hn wr (.cells (Na y a3 l3 c3 a4 l4 c4) 28);have xu:(wr.alloc (.cells (Na y a3 l3 c3 a4 l4 c4) 28)).cell? ⟨bn,on+j,none⟩=some (.string w):=(E.1.cell (p:=⟨bn,on+j,none⟩) m).trans I;obtain ⟨px,M⟩:∃px:pV D d S h,px.1=((Nc y a3 l3 c3 a4 l4 c4),y):=⟨⟨_,P,Z⟩,rfl⟩;obtain ⟨pt,A⟩:∃pt:pV D d S h,pt.1=([Iz 3,.bool false,Iz 0,.string w,Sn,Sn],txC w):=by
    have yu:∃d',d=d'+1:=by
     cases d with
     | zero=>cases Z.1
     | succ d=>exact ⟨d,rfl⟩
    have hD1:1≤D:=by
     cases D with
     | zero=>exact P.elim
     | succ D=>omega
    obtain ⟨d',rfl⟩:=yu;exact ⟨⟨(_,txC w),(cJ S h 3 false 0 w xh).deeper hD1,WG (yr.o w (Ao C))⟩,rfl⟩
   obtain ⟨xe,X⟩:=JV ns its j w y C hx;rw [←HQ.o] at xe X;have x6:Hid (jH (a++[pt]) <+: Q):=Hh (by rw [jW,A,c,←xe];exact List.take_prefix _ _)
   have K:Hid (jH (a++[pt]++[px])=Q.take (2 * (j+1))):=Hh (by rw [jW,jW,A,M,c,←X])
   have yj:=aA (E.2 _ _ _ _ xa tnu (f.2 _ _ _ _ xa tnu HK.o));have xq:=Hh E;have yp:=Hh xm;have yk:=Hh xl;have yl:=Hh A;have yx:=Hh M;have xx:Hid (wr.heap.size ≠ g):=Hh (by have:=f.1.size;omega)
   clear k0 k1 k2 k3 k4 k5 cc c V U f xl E hx Z M P ck A xe X C x9 xh I xm
   gi_wp2
   refine ⟨trivial,(callsIn_wide.2 (gN w _)).mono ?_⟩;rintro e w4 ⟨rfl,T⟩;have xi:J a w4:=HJ.o a _ _ none yk.o (aK T (Lr _) none) (fun r e=>by cases e)
   have x7:=KpW.below (TB:=5) T (Af x8 xq.o.1.size);obtain ⟨fn,tmps,assign,body,hy,hR⟩:=HY.o a pt w4 xi (by have:=xv.o;omega)
   rw [yl.o] at hy;simp only [List.toArray] at hy;have xf:=Hh hR;have xy:=Hh x7;clear xi x7 hR T yj xu ys q0 q1 q2 q3 q4 q5
   gi_wp2
   refine xf.out.mono ?_;rintro e W5 (⟨rfl,xn,xc⟩ | ⟨rfl,G⟩)
   ·have c5:=aA (xc.2 _ _ _ _ xx.o tnu (xy.o.2 _ _ _ _ xx.o tnu yp.o))
    obtain ⟨y1,ye,x5,yg,B,xw⟩:=HY.o (a++[pt]) px W5 xn (by have:=xv.o;simp;omega)
    rw [yx.o] at B;simp only [List.toArray] at B;have xb:=Hh xw;have yq:=Hh xc;clear xn xc xw hy xf
    gi_wp2
    refine xb.o.mono ?_;rintro e W6 (⟨rfl,xt,yb⟩ | ⟨rfl,H⟩)
    ·have Y:=Hh xt
     have yz:=Hh yb;clear xt yb xb B c5
     gi_wp2
     go_roundw
     case rel=>exact ⟨j+1,by omega,by go_num,⟨_,K.o,Y.o⟩,L.o.trans (xq.o.trans (xy.o.trans (yq.o.trans yz.o)))⟩
     case measure=>simp [intOf];omega
    ·have Y:=Hh H
     clear H xb B c5
     gi_wp2
     refine Au (results_none rfl _ _ _) rfl ?_;exact ⟨⟨_,rfl⟩,.inr ⟨_,by rw [K.o];exact List.take_prefix _ _,Y.o⟩⟩
   ·have yy:=Hh G
    clear G xf hy
    gi_wp2
    refine Au (results_none rfl _ _ _) rfl ?_;exact ⟨⟨_,rfl⟩,.inr ⟨_,x6.o,yy.o⟩⟩
  ·have xr:j=its.length:=by omega
   have yd:¬ (j:Int)<(its.length:Int):=by omega
   have k:=xj.o.2;rw [←xr] at k;have ym:=Hh k;clear c V f ck k xr
   gi_wp2
   go_end0
   exact ⟨⟨_,rfl⟩,.inl ⟨a,by rw [ya.o,ym.o],U⟩⟩
theorem GV {D d:Nat} {S:Nat→Prop} {x:ND} {F O:Option Addr} {N c1 E c2:Nat} (f:World) {g w:Nat} (B:∀b,S b→b<g) (k:w ≠ g)
 (c:f.heap[w]?=some (.cells (Na x F N c1 O E c2) 28 (0,0))) (h:aD (D+1) S f (Nc x F N c1 O E c2) x) (A:aC (d+1) x=true) (Q:aP (d+1) x=true) (i:g<f.heap.size) (n:Nat) (m:1≤n) :
 SeqStopsK Fence.wide n prog 195 #[.pointer (some ⟨w,0,none⟩)] (fun p:pV D d S f=>#[.agg p.1.1.toArray]) (KpC g) (fun P=>jH P=mO x) (fun z=>jH z <+: mO x) 600 f:=fun l J C W L M _ G I=>by
 obtain ⟨T,R,e,-,t,j⟩:=h;simp only [Bu,Dd,Dj] at e;obtain ⟨rfl,rfl⟩:=e;obtain ⟨H,K,-,v⟩:=aX A;obtain ⟨-,o⟩:=cG Q
 by_cases a:x.kind=5
 ·have u:mO x=(List.zipWith (fun s y=>[txC s,y]) x.names x.items).flatten:=by unfold mO;rw [Am a]
  have r:x.names.length=x.items.length:=by
   rcases iF A with e | e | e | e | e | ⟨-,e⟩
   ·rw [e] at a;cases a
   ·rw [e] at a;cases a
   ·rw [e] at a;cases a
   ·rw [e] at a;cases a
   ·rw [e] at a;cases a
   ·exact e
  rw [u];rw [Na,a] at c;exact QQ x.names x.items f B k c t j r v (fun y q=>⟨H y q,o y q⟩) K i n m l J C W L M G I
 ·have u:mO x=x.items:=by unfold mO;rw [Ae a]
  rw [u];exact LW x.items f B k c a j (fun y q=>⟨H y q,o y q⟩) K i n m l J C W L M G I
attribute [local go_sem] Oper.semAt_some
theorem aBd {c:Array Value}:∀ (b:Array Value) (a:Nat × Nat),Obj.cells c 212 (0,0) ≠ Obj.cells b 5 a:=fun b a e=>by simp at e
theorem aGr {c:Array Value}:∀ (b:Array Value) (a:Nat × Nat),Obj.cells c 28 (0,0) ≠ Obj.cells b 5 a:=fun b a e=>by simp at e
def aKk (B g:Nat) (l T:Ub) (w:World) (e:Ending) (w':World):Prop:=e=.returned (.tuple #[])∧∃l',TO B w' g l'∧Out l T l'∧l'.length≤140000∧WFr 5 g w w'
def JG (d:Nat):Prop:=∀ (D:Nat) (S:Nat→Prop) (a:Vl) (x:ND) (w:World) (B g:Nat) (l:Ub),TO B w g l→B≤w.heap.size→l.length≤65536→aD D S w a x→(∀b,S b→b<g)→aC d x=true→aP d x=true →
 Calls prog 145 #[.pointer (some ⟨g,0,none⟩),.agg a.toArray] w (aKk B g l (aU d x) w)
theorem PG {d:Nat} (IH:JG d):JG (d+1):=by
 intro D S cs x w B g l yl hB hl h hS hv hn;obtain ⟨I,J,c1,G,L,c2,rfl⟩:=h.slices;cases D with
 | zero=>exact h.elim
 | succ D=>
 have yr:=yl.lt;obtain ⟨Y,xu⟩:∃p,p=w.heap.size:=⟨_,rfl⟩;obtain ⟨a,xz⟩:∃p,p=w.heap.size+1:=⟨_,rfl⟩;have up:x.text.size≤65536:=dY (aX hv).2.2.1;have zx:=yL hv hn;have y6:=yK x;have bb:=((Br w.heap.size w).alloc (o:=.cells #[.pointer (some ⟨g,0,none⟩)] 212) (Lr _)).alloc (o:=.cells (Na x I J c1 G L c2) 28) (by simp)
 have k1:=((Br (w.heap.size+1) (w.alloc (.cells #[.pointer (some ⟨g,0,none⟩)] 212))).alloc (o:=.cells (Na x I J c1 G L c2) 28) (by simp)).block w.heap.size (by omega) |>.trans (Hn w (.cells #[.pointer (some ⟨g,0,none⟩)] 212))
 have k2:=Hn (w.alloc (.cells #[.pointer (some ⟨g,0,none⟩)] 212)) (.cells (Na x I J c1 G L c2) 28);rw [Cz] at k2;rw [←xu] at k1;rw [←xz] at k2;obtain ⟨m,yy⟩:∃W,W=(w.alloc (.cells #[.pointer (some ⟨g,0,none⟩)] 212)).alloc (.cells (Na x I J c1 G L c2) 28):=⟨_,rfl⟩;rw [←yy] at bb k1 k2;have yc:=yl.below bb;have yh:=WFr.of_below (TB:=5) bb (Bw yr);have ug:B≤m.heap.size:=Af hB bb.size;have h2:aD (D+1) S m (Nc x I J c1 G L c2) x:=h.same fun b hb=>bb.block b (Cm (hS b hb) yr)
 have C:Y ≠ g:=by omega
 have R:a ≠ g:=by omega
 have HF:=Hh (fun (wx:World) (hb:Below m.heap.size m wx)=>nR _ x wx (h2.same fun b z5=>hb.block b (Ll (Cm (hS b z5) yr) bb.size)) hv hn)
 have xy:=Hh (fun (wx:World)=>XK (fZ x) (gL x) wx y6 zx)
 rw [show iR x=.agg #[Iz (fZ x:Int),.int .u64 (gL x:Int)] from rfl] at HF
 obtain ⟨hd,xt⟩:∃t:Bt,t=bC (cR (fZ x) (gL x)):=⟨_,rfl⟩;rw [←xt] at xy;have uq:hd.size≤9:=by rw [xt,bY,eH];have:=nB (gL x);omega
 have ye:hd.data.toList=cR (fZ x) (gL x):=by rw [xt,gR]
 have ub:=Hh ye;obtain ⟨zm,zt⟩:∃z:Int,z=(fZ x:Int):=⟨_,rfl⟩;obtain ⟨zc,y9⟩:∃z:Int,z=(gL x:Int):=⟨_,rfl⟩;rw [←zt,←y9] at HF xy;have ua:=Hh IH;have H:=Hh (Ai h2 (Ai hS (Ai hv hn)));have K1:=Hh k1;have K2:=Hh k2;have ze:=Hh yh;have zu:=Hh yc;have uk:=Hh (Ai xu xz);clear IH h h2 hS hv hn zx y6 k1 k2 yh yc yl bb xt ye zt y9 hB;obtain ⟨ib,zj,zw,za,zg⟩:=Ea nA;have zi:=underlying69;have yb:=underlying9;have z1:=Hh zj;clear zj;refine (callsIn_wide (n:=10)).1 ?_;refine callsIn_of_wp_marks func145 rfl trivial ?_ rfl;simp only [ntmps145,Eb,Ag,Bz,Nat.reduceAdd,Nat.reduceSub,Array.replicate_succ,Array.replicate_zero,List.push_toArray,List.append_toArray,Ds,Bo];refine wpIn_mono (Q:=GC _) ?_ GC.o;refine wpIn_wide.2 ?_
 go_upto_region 1 with fail
 rw [←yy,←xz,←xu];clear yy xu xz
 -- THE HEAD
 have xg:Below m.heap.size m m.drew:=(Br _ _).drew;have yq:=zu.o.below xg;obtain ⟨vv,y1,z8,uf⟩:=id zu.o;have yj:(m.cell? ⟨Y,0,none⟩=some (.pointer (some ⟨g,0,none⟩))∧m.cell? ⟨g,0,none⟩=some (vv))∧m.cell? ⟨a,0,none⟩=some (Iz x.kind)∧m.cell? ⟨a,1,none⟩=some (.bool x.bool)∧m.cell? ⟨a,2,none⟩=some (Iz x.num)∧m.cell? ⟨a,3,none⟩=some (.string x.text)∧m.cell? ⟨a,4,none⟩=some (.slice I J c1)∧m.cell? ⟨a,5,none⟩=some (.slice G L c2):=⟨⟨aL K1.o rfl,aL y1 rfl⟩,aA K2.o⟩;have N:(m.drew.cell? ⟨Y,0,none⟩=some (.pointer (some ⟨g,0,none⟩))∧m.drew.cell? ⟨g,0,none⟩=some (vv))∧m.drew.cell? ⟨a,0,none⟩=some (Iz x.kind)∧m.drew.cell? ⟨a,1,none⟩=some (.bool x.bool)∧m.drew.cell? ⟨a,2,none⟩=some (Iz x.num)∧m.drew.cell? ⟨a,3,none⟩=some (.string x.text)∧m.drew.cell? ⟨a,4,none⟩=some (.slice I J c1)∧m.drew.cell? ⟨a,5,none⟩=some (.slice G L c2):=yj;have M:Y<m.drew.heap.size∧a<m.drew.heap.size∧g<m.drew.heap.size:=⟨Aa K1.o,Aa K2.o,Aa y1⟩;clear y1 z8 uf;refine aI (fun w'=>(w'.cell? ⟨Y,0,none⟩=some (.pointer (some ⟨g,0,none⟩))∧w'.cell? ⟨g,0,none⟩=some (vv))∧w'.cell? ⟨a,0,none⟩=some (Iz x.kind)∧w'.cell? ⟨a,1,none⟩=some (.bool x.bool)∧w'.cell? ⟨a,2,none⟩=some (Iz x.num)∧w'.cell? ⟨a,3,none⟩=some (.string x.text)∧w'.cell? ⟨a,4,none⟩=some (.slice I J c1)∧w'.cell? ⟨a,5,none⟩=some (.slice G L c2)) [0,1,4,5] (.take 0 (.take 1 (.take 2 (.take 3 (.take 4 (.take 5 (.ask 6 true (.ask 7 true (.ask 8 true (.ask 9 false (.take 10 (.ask 11 false .stop .stop)) .stop) .stop) .stop) .stop))))))) (by kernel_rfl) (by kernel_rfl) (fun _ d _ _ _ h=>by cases d <;> exact h) yj ?_
 clear yj;generalize m.drew=wd at xg yq N M ⊢
 iterate 2 (refine aM _ ?_ rfl rfl (by decide) ?_ (fun K k=>?_);rotate_left;(intro w0 X;obtain ⟨⟨s0,s1⟩,s2,s3,s4,s5,s6,s7⟩:=X;go_simp;(try rfl));(go_simp;refine k _ ?_;clear k K))
 iterate 2 (refine aF _ ?_ rfl rfl ?_ (fun K k=>?_);rotate_left;(intro w0;go_simp;(try rfl));(go_simp;refine k _ ?_;clear k K))
 iterate 2 (refine aM _ ?_ rfl rfl (by decide) ?_ (fun K k=>?_);rotate_left;(intro w0 X;obtain ⟨⟨s0,s1⟩,s2,s3,s4,s5,s6,s7⟩:=X;go_simp;(try rfl));(go_simp;refine k _ ?_;clear k K))
 have KC:=Hh (fun (wx:World) (hb:Below wd.heap.size wd wx)=>(show (wx.cell? ⟨Y,0,none⟩=some (.pointer (some ⟨g,0,none⟩))∧wx.cell? ⟨g,0,none⟩=some (vv))∧wx.cell? ⟨a,0,none⟩=some (Iz x.kind)∧wx.cell? ⟨a,1,none⟩=some (.bool x.bool)∧wx.cell? ⟨a,2,none⟩=some (Iz x.num)∧wx.cell? ⟨a,3,none⟩=some (.string x.text)∧wx.cell? ⟨a,4,none⟩=some (.slice I J c1)∧wx.cell? ⟨a,5,none⟩=some (.slice G L c2) from ⟨⟨(hb.cell (p:=⟨Y,0,none⟩) M.1).trans N.1.1,(hb.cell (p:=⟨g,0,none⟩) M.2.2).trans N.1.2⟩,(hb.cell (p:=⟨a,0,none⟩) M.2.1).trans N.2.1,(hb.cell (p:=⟨a,1,none⟩) M.2.1).trans N.2.2.1,(hb.cell (p:=⟨a,2,none⟩) M.2.1).trans N.2.2.2.1,(hb.cell (p:=⟨a,3,none⟩) M.2.1).trans N.2.2.2.2.1,(hb.cell (p:=⟨a,4,none⟩) M.2.1).trans N.2.2.2.2.2.1,(hb.cell (p:=⟨a,5,none⟩) M.2.1).trans N.2.2.2.2.2.2⟩))
 have xq:=Hh xg;have zq:=Hh yq;clear N M xg yq;refine aH _ rfl trivial ?_;go_wp2_with (go_at_call 167;(with_reducible refine (HF.o _ xq.o).mono ?_);rintro e w3 ⟨rfl,yz⟩);refine Seg.mk ⟨KC.o _ yz,?_⟩;have yw:=Hh yz;clear yz;refine aH _ rfl trivial ?_;go_wp2_with (go_at_call 168;(with_reducible refine (xy.o _).mono ?_);rintro e w4 ⟨rfl,zd⟩);have T:=yw.o.trans (zd.mono yw.o.size);refine Seg.mk ⟨KC.o _ T,?_⟩;have ue:=zq.o.below T;have B4:B≤w4.heap.size:=Af ug (Af xq.o.size T.size);have c4:=KC.o _ T;obtain ⟨v4,yi,x8,uh⟩:=ue;have z6:v4=vv:=by
  have:=aL yi (j:=0) rfl;rw [c4.1.2] at this;exact (Ab this).symm
 subst z6;obtain ⟨ao,yp,rfl,-,-⟩:=dM x8;have xo:hd.data.toList.length=hd.size:=by rw [Ah];rfl
 have ST:=Hh (fun (w8:World) (v':Value) (ho:w8.ownsRow B 5 1 v' (l.length+hd.size) (aS l++Lib.strCells hd)) (hg:w4.grownBy w8 (Value.slice ao l.length yp).ownBlock)=>yQ (l':=l++hd.data.toList) yi x8 uh twc (by rw [Lg,xo,cF];exact ho) hg)
 have zz:=Hh x8;have x7:=Hh (xq.o.trans (T.mono xq.o.size));have y3:=Hh ((x7.o.block _ (Aa K1.o)).trans K1.o);have yt:=Hh ((x7.o.block _ (Aa K2.o)).trans K2.o);clear T zd c4 xo KC yw xq zq HF xy x8 yi;refine aH _ rfl trivial ?_
 go_wp2_with (at_builtin;refine Lib.wpList_append_own_string _ rfl (.tmp 9) (.tmp 12) 69 9 rfl B 5 ib zi yb z1.o zw za zg _ l.length _ rfl zz.o hd rfl (by unfold maxLen;omega) (by omega) B4 ?_;intro v' w8 v q xm)
 obtain ⟨xw,xh,rfl,-,-⟩:=dM v;obtain ⟨k8,zr,xl⟩:=ST.o w8 _ v q;have zn:=(heap_setCell_other w8 ⟨g,0,none⟩ Y (.slice xw (l.length+hd.size) xh) C).symm.trans (xl.2 Y _ C y3.o aBd);have zv:=(heap_setCell_other w8 ⟨g,0,none⟩ a (.slice xw (l.length+hd.size) xh) R).symm.trans (xl.2 a _ R yt.o aGr);have ym:=Hh (xl.2 Y _ C y3.o aBd);have x6:=Hh (xl.2 a _ R yt.o aGr);have yk:=Hh zr;have yx:=Hh xl;refine Seg.mk ⟨⟨⟨aL zn rfl,aL k8 rfl⟩,aA zv⟩,?_⟩;have c8:w8.cell? ⟨g,0,none⟩=some (.slice ao l.length yp):=aL k8 rfl;have f8:w8.frozen? ⟨g,0,none⟩=false:=gZ k8;clear v q xm k8 zr xl zn zv ST zz y3 yt;refine aB _ rfl trivial ?_;go_wp2_with fail;refine Seg.mk ?_;refine aF _ ?_ rfl rfl ?_ (fun K k=>?_);rotate_left;(intro w0;go_simp;(try rfl));(go_simp;refine k _ ?_;clear k K)
 refine bQ _ rfl trivial ?_
 go_upto_region 2 with fail
 generalize w8.setCell ⟨g,0,none⟩ (.slice xw (l.length+hd.size) xh)=V at ym x6 yk yx ⊢
 -- THE TEXT
 obtain ⟨i,Z⟩:∃t,t=l++hd.data.toList:=⟨_,rfl⟩;rw [←Z] at yk;have ul:i.length≤65545:=by rw [Z,Lg,show hd.data.toList.length=hd.size by rw [Ah];rfl];omega
 rw [ub.o] at Z;have z9:=Hh Z;have B5:B≤V.heap.size:=Af B4 yx.o.1.size;clear Z c8 f8;have xg:Below V.heap.size V V.drew:=(Br _ _).drew;obtain ⟨v5,ys,y2,zh⟩:=id yk.o;obtain ⟨xf,A,rfl,-,-⟩:=dM y2;have zl:(V.cell? ⟨Y,0,none⟩=some (.pointer (some ⟨g,0,none⟩))∧V.cell? ⟨g,0,none⟩=some ((.slice xf i.length A)))∧V.cell? ⟨a,0,none⟩=some (Iz x.kind)∧V.cell? ⟨a,1,none⟩=some (.bool x.bool)∧V.cell? ⟨a,2,none⟩=some (Iz x.num)∧V.cell? ⟨a,3,none⟩=some (.string x.text)∧V.cell? ⟨a,4,none⟩=some (.slice I J c1)∧V.cell? ⟨a,5,none⟩=some (.slice G L c2):=⟨⟨aL ym.o rfl,aL ys rfl⟩,aA x6.o⟩;have xo:x.text.data.toList.length=x.text.size:=by rw [Ah];rfl
 have D1:V.drew.heap[g]?=some (.cells #[.slice xf i.length A] 180 (0,0)):=ys;have D2:V.drew.ownsRow B 5 1 (.slice xf i.length A) i.length (aS i):=y2;have ST:=Hh (fun (w8:World) (v':Value) (ho:w8.ownsRow B 5 1 v' (i.length+x.text.size) (aS i++Lib.strCells x.text)) (hg:V.drew.grownBy w8 (Value.slice xf i.length A).ownBlock)=>yQ (l':=i++x.text.data.toList) D1 D2 zh twc (by rw [Lg,xo,cF];exact ho) hg)
 have y4:=Hh D2;have yd:=Hh xg;have xr:Hid (V.drew.heap[Y]?=some (.cells #[.pointer (some ⟨g,0,none⟩)] 212 (0,0))):=Hh ym.o;have x9:Hid (V.drew.heap[a]?=some (.cells (Na x I J c1 G L c2) 28 (0,0))):=Hh x6.o;have Bd:B≤V.drew.heap.size:=B5;clear ys y2 zh xo D1 D2 xg;refine aI (fun w'=>(w'.cell? ⟨Y,0,none⟩=some (.pointer (some ⟨g,0,none⟩))∧w'.cell? ⟨g,0,none⟩=some ((.slice xf i.length A)))∧w'.cell? ⟨a,0,none⟩=some (Iz x.kind)∧w'.cell? ⟨a,1,none⟩=some (.bool x.bool)∧w'.cell? ⟨a,2,none⟩=some (Iz x.num)∧w'.cell? ⟨a,3,none⟩=some (.string x.text)∧w'.cell? ⟨a,4,none⟩=some (.slice I J c1)∧w'.cell? ⟨a,5,none⟩=some (.slice G L c2)) [0,1,4,6] (.take 0 (.take 1 (.take 2 (.take 3 (.take 4 (.take 5 (.take 6 (.ask 7 true (.ask 8 false (.take 9 (.ask 10 false .stop .stop)) .stop) .stop)))))))) (by kernel_rfl) (by kernel_rfl) (fun _ d _ _ _ h=>by cases d <;> exact h) zl ?_
 clear zl;generalize V.drew=wd at ST y4 yd xr x9 Bd ⊢
 iterate 2 (refine aM _ ?_ rfl rfl (by decide) ?_ (fun K k=>?_);rotate_left;(intro w0 X;obtain ⟨⟨s0,s1⟩,s2,s3,s4,s5,s6,s7⟩:=X;go_simp;(try rfl));(go_simp;refine k _ ?_;clear k K))
 iterate 2 (refine aF _ ?_ rfl rfl ?_ (fun K k=>?_);rotate_left;(intro w0;go_simp;(try rfl));(go_simp;refine k _ ?_;clear k K))
 refine aM _ ?_ rfl rfl (by decide) ?_ (fun K k=>?_);rotate_left;(intro w0 X;obtain ⟨⟨s0,s1⟩,s2,s3,s4,s5,s6,s7⟩:=X;go_simp;(try rfl));(go_simp;refine k _ ?_;clear k K)
 refine aF _ ?_ rfl rfl ?_ (fun K k=>?_);rotate_left;(intro w0;go_simp;(try rfl));(go_simp;refine k _ ?_;clear k K)
 refine aM _ ?_ rfl rfl (by decide) ?_ (fun K k=>?_);rotate_left;(intro w0 X;obtain ⟨⟨s0,s1⟩,s2,s3,s4,s5,s6,s7⟩:=X;go_simp;(try rfl));(go_simp;refine k _ ?_;clear k K)
 refine aH _ rfl trivial ?_
 go_wp2_with (at_builtin;refine Lib.wpList_append_own_string _ rfl (.tmp 20) (.tmp 22) 69 9 rfl B 5 ib zi yb z1.o zw za zg _ i.length _ rfl y4.o x.text rfl (by unfold maxLen;omega) (by omega) Bd ?_;intro v' w9 v q xm)
 obtain ⟨ya,xi,rfl,-,-⟩:=dM v;obtain ⟨k9,xd,u⟩:=ST.o w9 _ v q;have z0:=(heap_setCell_other w9 ⟨g,0,none⟩ Y (.slice ya (i.length+x.text.size) xi) C).symm.trans (u.2 Y _ C xr.o aBd);have zy:=(heap_setCell_other w9 ⟨g,0,none⟩ a (.slice ya (i.length+x.text.size) xi) R).symm.trans (u.2 a _ R x9.o aGr);have yv:=Hh (u.2 Y _ C xr.o aBd);have zk:=Hh (u.2 a _ R x9.o aGr);have x5:=Hh xd;have yu:=Hh u;refine Seg.mk ⟨⟨⟨aL z0 rfl,aL k9 rfl⟩,aA zy⟩,?_⟩;have c9:w9.cell? ⟨g,0,none⟩=some (.slice xf i.length A):=aL k9 rfl;have f9:w9.frozen? ⟨g,0,none⟩=false:=gZ k9;clear v q xm k9 xd u z0 zy ST y4 xr x9;refine aB _ rfl trivial ?_;go_wp2_with fail;refine Seg.mk ?_;refine aF _ ?_ rfl rfl ?_ (fun K k=>?_);rotate_left;(intro w0;go_simp;(try rfl));(go_simp;refine k _ ?_;clear k K)
 refine bQ _ rfl trivial ?_
 go_upto_region 3 with fail
 generalize w9.setCell ⟨g,0,none⟩ (.slice ya (i.length+x.text.size) xi)=w6 at yv zk x5 yu ⊢;obtain ⟨xv,xc⟩:∃t,t=i++x.text.data.toList:=⟨_,rfl⟩;rw [←xc] at x5;have um:xv.length≤131081:=by rw [xc,Lg,show x.text.data.toList.length=x.text.size by rw [Ah];rfl];omega
 rw [z9.o] at xc;have y8:=Hh xc;have yf:WFr 5 g w w6:=ze.o.trans ((WFr.of_below x7.o (by have:=x7.o;have:=Aa K2.o;omega)).trans (yx.o.trans ((WFr.of_below yd.o (by have:=Aa x6.o;omega)).trans yu.o)))
 have zo:=Hh yf;clear xc c9 f9 yf;have ui:=aA zk.o
 -- THE PARTS
 go_wp2_with (go_at_call 169;(with_reducible refine (SW _).mono ?_);rintro e w7 ⟨rfl,rfl⟩)
 have xj:=(Br w6.heap.size w6).alloc (o:=.cells (Na x I J c1 G L c2) 28) (Lr _);have k7:=Hn w6 (.cells (Na x I J c1 G L c2) 28);have yn:g<w6.heap.size:=x5.o.lt;have z3:=x5.o.below xj;have xb:WFr 5 g w (w6.alloc (.cells (Na x I J c1 G L c2) 28)):=zo.o.trans (WFr.of_below xj (Bw yn));have zb:=(xj.block _ (Aa yv.o)).trans yv.o;have U:g<(w6.alloc (.cells (Na x I J c1 G L c2) 28)).heap.size:=Ll yn xj.size;have z2:B≤(w6.alloc (.cells (Na x I J c1 G L c2) 28)).heap.size:=Af Bd (Af yu.o.1.size xj.size);obtain ⟨b7,y5⟩:∃b,b=w6.heap.size:=⟨_,rfl⟩;rw [←y5] at k7 ⊢;have zp:b7 ≠ g:=by omega
 generalize w6.alloc (.cells (Na x I J c1 G L c2) 28)=w7 at k7 z3 xb zb U z2 ⊢;clear y5 xj yn ui;obtain ⟨h2,hS,hv,hn⟩:=H.o;have h7:aD (D+1) S w7 (Nc x I J c1 G L c2) x:=h2.same fun b hb=>by
  have ud:m.heap[b]?=w.heap[b]?:=ze.o.1.block b (hS b hb);rw [xb.1.block b (hS b hb),ud]
 have y0:Hid (B≤w7.heap.size∧w.heap.size≤w7.heap.size):=Hh ⟨z2,xb.1.size⟩;refine wpIn_wide (n:=10).1 ?_;refine wpIn_rangeFunc_ownH rfl (by decide) (gf:=195) (lb:=#[.pointer (some ⟨b7,0,none⟩)]) rfl trivial (enters_of func195 (by kernel_rfl) rfl)
  (GV (D:=D) (d:=d) (S:=S) w7 hS zp k7 h7 hv hn U 9 (by decide)) KpW.trans (aIx (Bw U)) (Br _ _) (fun _=>rfl)
  (fun xk W=>∃l',TO B W g l'∧Out xv ((jH xk).flatMap (aU d)) l'∧l'.length≤140000∧WFr 5 g w7 W)
  (fun c xk W=>c=.ret∧∃l',TO B W g l'∧Out xv ((jH xk).flatMap (aU d)) l'∧65536<l'.length∧l'.length≤140000∧WFr 5 g w7 W)
  (fun s W W' row hs hg hr=>by
   obtain ⟨l',O,E,q3,P⟩:=hs;exact ⟨l',sG O hg (fun r e=>(hr r e).2),E,q3,sN P (Lr _) U hg (fun r e=>(hr r e).1) P.1.size⟩)
  (fun c s W W' row hs hg hr=>by
   obtain ⟨hc,l',O,E,q3,P,q5⟩:=hs;exact ⟨hc,l',sG O hg (fun r e=>(hr r e).2),E,q3,P,sN q5 (Lr _) U hg (fun r e=>(hr r e).1) q5.1.size⟩)
  ⟨xv,z3,.inl (by simp [jH]),by omega,WFr.refl _ _ _⟩
  (fun p a' W=>∃Bx,Bx ≠ g∧W.heap[Bx]?=some (.cells p.1.1.toArray 28 (0,0))∧a'={ tmps:=#[.pointer (some ⟨g,0,none⟩),.agg (Na x I J c1 G L c2),.pointer (some ⟨Y,0,none⟩),.pointer (some ⟨a,0,none⟩),.pointer (some ⟨Bx,0,none⟩),.pointer (some ⟨g,0,none⟩),.pointer (some ⟨g,0,none⟩),.pointer (some ⟨g,0,none⟩),.pointer (some ⟨g,0,none⟩),.slice ao l.length yp,.agg (Na x I J c1 G L c2),.agg #[Iz zm,.int .u64 zc],.string hd,.slice xw (l.length+hd.size) xh,.pointer (some ⟨g,0,none⟩),.pointer (some ⟨g,0,none⟩),.pointer (some ⟨g,0,none⟩),.pointer (some ⟨g,0,none⟩),.pointer (some ⟨g,0,none⟩),.pointer (some ⟨g,0,none⟩),.slice xf i.length A,.pointer (some ⟨a,3,none⟩),.string x.text,.slice ya (i.length+x.text.size) xi,.pointer (some ⟨g,0,none⟩),.pointer (some ⟨g,0,none⟩),.agg (Na x I J c1 G L c2),.func (.func 195) #[] #[.pointer (some ⟨b7,0,none⟩)],.agg p.1.1.toArray,undef,undef,undef,undef,undef],defers:=[] })
  (fun p a' _ W W' row hs hg hr=>by
   obtain ⟨Bx,O,E,q3⟩:=hs;refine ⟨Bx,O,(hg.block Bx (Aa E) fun e=>?_).trans E,q3⟩
   obtain ⟨-,o,ho,hc⟩:=hr Bx e.symm;rw [E] at ho;cases ho;cases hc)
  ?assign ?body ?done ?stop
 case assign=>
  rintro lp xk ⟨⟨cs,y⟩,hy⟩ W K ⟨l',O,E,q3,P⟩ k;dsimp only at hy;obtain ⟨a3,l3,c3,a4,l4,c4,rfl⟩:=hy.1.slices
  gi_wp2
  have bA:=(Br W.heap.size W).alloc (o:=.cells (Na y a3 l3 c3 a4 l4 c4) 28) (Lr _);have xx:=O.lt;have fA:=WFr.of_below (TB:=5) bA (Bw xx);exact k _ _ (nP fA (Bw xx) U) (KpW.of fA) ⟨l',O.below bA,E,q3,P.trans fA⟩ ⟨W.heap.size,by omega,Hn W _,rfl⟩
 case body=>
  rintro lp xk ⟨⟨cs,y⟩,hy⟩ a' W un ⟨r,hr⟩ ⟨l',O,E,q3,P⟩ ⟨Bx,ut,z7,rfl⟩ uo;dsimp only at hy;obtain ⟨a3,l3,c3,a4,l4,c4,rfl⟩:=hy.1.slices;have yo:=P.2 Y _ C zb aBd;have us:W.cell? ⟨Y,0,none⟩=some (.pointer (some ⟨g,0,none⟩)):=aL yo rfl;have ur:=aA z7;have xx:=O.lt;have EX:=Hh (OE W O);have uu:1≤10 - 1 - 1:=by decide
  by_cases xp:65536<l'.length
  ·rw [Ap xp] at EX
   have Q4:=Hh P;have Q1:=Hh O;have Q2:=Hh E;clear O E P yo
   gi_wp2_with (refine ⟨trivial,?_⟩;gi_at_call 146;refine (CallsIn.inRound lp (callsIn_wide.2 EX.o)).mono ?_;rintro e W2 ⟨rfl,xe⟩;(replace xe:=xe.symm);subst xe)
   exact ⟨KeepsFrom.refl _ _,rfl,l',Q1.o,Q2.o.cut xp (xD ⟨[y],by rw [jW]⟩),xp,q3,Q4.o⟩
  ·rw [Ar xp] at EX
   have y7:aD D S W (Nc y a3 l3 c3 a4 l4 c4) y:=hy.1.same fun b hb=>P.1.block b (hS b hb)
   have z4:=Hh (ua.o D S _ y W B g l' O (Af y0.o.1 P.1.size) (by omega) y7 hS hy.2.1 hy.2.2)
   have Q4:=Hh P;have Q2:=Hh E;have uc:=Hh xx;clear O E P yo y7
   gi_wp2_with (first
    | (refine ⟨trivial,?_⟩;gi_at_call 146;refine (CallsIn.inRound lp (callsIn_wide.2 EX.o)).mono ?_;rintro e W2 ⟨rfl,xe⟩;(replace xe:=xe.symm);subst xe)
    | (refine ⟨trivial,?_⟩;gi_at_call 145;refine (CallsIn.inRound lp (callsIn_wide.2 z4.out)).mono ?_;rintro e W3 ⟨rfl,uj,u1,u2,u3,u4⟩;(have U1:=Hh u1);(have U2:=Hh u2);(have U4:=Hh u4);clear u1 u2 u4))
   exact ⟨nP U4.o (Bw uc.o) U,KpW.of U4.o,uj,U1.o,by rw [jW,List.flatMap_append];have:=Q2.o.more xp U2.o;simpa using this,u3,Q4.o.trans U4.o⟩
 case done=>
  rintro DD xs W hD zf ⟨l',O,E,q3,P⟩ k;have q:=grownBy_putObj' W DD (.deferred none);have xa:∀r,some DD=some r→∃o:Obj,W.heap[r]?=some o∧o.isCells=false:=fun r e=>by cases e;exact ⟨_,k,rfl⟩
  have xd:=sG O q xa;have u:=sN (xb.trans P) y0.o.2 U q (fun r e=>by cases e;exact hD) P.1.size
  have xn:Out l (aU (d+1) x) l':=by
   rw [sJ hv,←zf];rw [y8.o] at E;rw [Aj] at E;exact UM E
  have F:=Hh (show ∃l',TO B (W.putObj DD (.deferred none)) g l'∧Out l (aU (d+1) x) l'∧l'.length≤140000∧WFr 5 g w (W.putObj DD (.deferred none)) from ⟨l',xd,xn,q3,u⟩)
  clear O E P q xa xd u xn zf
  show bodyPostM _ _ _ _ _ Exit.normal _ _
  refine ⟨by simp,.inl ⟨_,_,rfl,run_takeDeferred k,?_⟩⟩
  exact ⟨_,results_none rfl _ _ _,rfl,F.o⟩
 case stop=>
  rintro DD c xk W hD yg ⟨rfl,l',O,E,q3,P,q5⟩ k;have q:=grownBy_putObj' W DD (.deferred none);have xa:∀r,some DD=some r→∃o:Obj,W.heap[r]?=some o∧o.isCells=false:=fun r e=>by cases e;exact ⟨_,k,rfl⟩
  have xd:=sG O q xa;have u:=sN (xb.trans q5) y0.o.2 U q (fun r e=>by cases e;exact hD) q5.1.size
  have xn:Out l (aU (d+1) x) l':=by
   rw [sJ hv];have q6:=E.cut q3 (xD (f:=aU d) yg);rw [y8.o] at q6;rw [Aj] at q6;exact UM q6
  have F:=Hh (show ∃l',TO B (W.putObj DD (.deferred none)) g l'∧Out l (aU (d+1) x) l'∧l'.length≤140000∧WFr 5 g w (W.putObj DD (.deferred none)) from ⟨l',xd,xn,P,u⟩)
  clear O E q5 q xa xd u xn yg;refine wpIn_ret ?_
  show bodyPostM _ _ _ _ _ Exit.ret _ _
  refine ⟨by simp,.inl ⟨_,_,rfl,run_takeDeferred k,?_⟩⟩
  exact ⟨_,results_none rfl _ _ _,rfl,F.o⟩
theorem DQ:∀d,JG d
 | 0=>fun D S b x w B g l _ _ _ _ _ a=>by cases a
 | d+1=>PG (DQ d)
end Go.Proofs.YtncdpanfefnjlaaGreatDoor