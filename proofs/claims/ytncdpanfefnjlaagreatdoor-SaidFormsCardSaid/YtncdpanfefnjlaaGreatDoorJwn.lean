import Derived.Test.YtncdpanfefnjlaaGreatDoorJrw
set_option linter.unusedVariables false
set_option linter.unusedSimpArgs false
set_option maxHeartbeats 3200000
set_option maxRecDepth 100000
namespace Go.Proofs.YtncdpanfefnjlaaGreatDoor
open Go.Proofs.Tryz
open Go Go.ChangeShapes Go.WideShapes Go.ChangeAt Go.RowKit
theorem sY (P:List (Ub)) (j:Nat) (o c:UInt8):(o::dK (P.take j)).length≤(o::(dK P++[c])).length:=by
 have:=sX P j;rw [Ag,Ag,Lg];omega
def ITb (g : Nat) (w : World) : Prop := Lib.TabBelow prog g w "internal/strconv.uint64pow10" .u64 Lib.pow10Tab
theorem ITb.on {g:Nat} {w w':World} (h:ITb g w) (a:Below g w w'):ITb g w':=Lib.TabBelow.on h a
theorem ITb.here {g:Nat} {w:World} (h:ITb g w):xX w:=Lib.TabBelow.here h
def aFs (B g m d:Nat) (l T:Ub) (w:World) (e:Ending) (w':World):Prop:=e=.returned (.tuple #[])∧∃l',sC B w' g m l'∧Out l T l'∧l'.length≤900000+d∧WFr 5 g w w'
def qM (d:Nat):Prop:=∀ (D:Nat) (S:Nat→Prop) (a:Vl) (x:ND) (w:World) (B g m:Nat) (l:Ub),sC B w g m l→eQ w m→B≤w.heap.size→l.length≤460000→aD D S w a x→(∀b,S b→b<g)→aC d x=true→aP d x=true→ITb g w →
 Calls prog 140 #[.pointer (some ⟨g,0,none⟩),.agg a.toArray] w (aFs B g m d l (aR d x) w)
theorem iQ {c:Array Value}:∀ (b:Array Value) (a:Nat × Nat),Obj.cells c 28 (0,0) ≠ Obj.cells b 5 a:=fun b a e=>by simp at e
theorem RP {d:Nat} (hd:d<99000) (IH:qM d) {D:Nat} {S:Nat→Prop} (T:Option Addr) (U c1:Nat) (R:Option Addr) (l2 c2:Nat) (ns:List Bt) (its:List ND) (w:World) {B g m:Nat} {l:Ub} (c:sC B w g m l) (Z:eQ w m) (hB:B≤w.heap.size) (hl:l.length≤460000)
 (xh:bH S w (.slice T U c1) ns) (O:cE (aD D S w) S w (.slice R l2 c2) its) (hS:∀b,S b→b<g) (hv:aC (d+1) (.mk 4 false 0 ⟨#[]⟩ [] its)=true) (hn:aP (d+1) (.mk 4 false 0 ⟨#[]⟩ [] its)=true) (hT:ITb g w) :
 Calls prog 162 #[.pointer (some ⟨g,0,none⟩),.agg #[Iz 4,.bool false,Iz 0,.string ⟨#[]⟩,.slice T U c1,.slice R l2 c2],.string ⟨#[91]⟩,.string ⟨#[93]⟩] w (aFs B g m (d+1) l (aR (d+1) (.mk 4 false 0 ⟨#[]⟩ [] its)) w):=by
 have L:=cG hn;have z:=aX hv;simp only [Nc,ND.kind,ND.bool,ND.num,ND.text,ND.names,ND.items] at L z;rw [sI];obtain ⟨P,hP⟩:∃P,P=its.map (aR d):=⟨_,rfl⟩;rw [←hP];obtain ⟨ai,ci,ei,yh,yg,-⟩:=id O;have xr:l2=its.length:=by cases ei;rfl
 subst xr;clear ei;have xn:=z.2.1;have xo:=c.lt;have xf:=c.le;have bX:=(Br w.heap.size w).alloc (o:=.cells #[Iz 4,.bool false,Iz 0,.string ⟨#[]⟩,.slice T U c1,.slice R its.length c2] 28) (Lr _);have kX:=Hn w (.cells #[Iz 4,.bool false,Iz 0,.string ⟨#[]⟩,.slice T U c1,.slice R its.length c2] 28);have fX:=WFr.of_below (TB:=5) (g:=g) bX (Bw xo);have J:=c.below bX;have N:B≤(w.alloc (.cells #[Iz 4,.bool false,Iz 0,.string ⟨#[]⟩,.slice T U c1,.slice R its.length c2] 28)).heap.size:=Af hB bX.size;generalize xu:w.alloc (.cells #[Iz 4,.bool false,Iz 0,.string ⟨#[]⟩,.slice T U c1,.slice R its.length c2] 28)=wX at bX kX fX J N;have PO:=Hh (fH ⟨#[91]⟩ wX J (by show l.length+1≤_;omega) N)
 have H:=Hh O;have HN:=Hh xh;have HS:=Hh hS;have HV:=Hh z;have xx:=Hh L;have HT:=Hh hT;have HP:=Hh hP;have HI:=Hh IH;have xt:=Hh Z;have FX:=Hh fX;have KX:=Hh kX;have xg:w.heap.size ≠ g:=by omega
 clear O xh hS z L hT hP IH c Z fX kX J N bX hv hn
 go_enter func162,ntmps162
 go_upto_region 1 with fail
 go_upto_region 2 with ((with_reducible refine (PO.o).mono ?_);rintro e w2 ⟨rfl,G,x⟩)
 clear xu;have k2:=x.2 _ _ xg KX.o iQ;have xv:=aA k2;clear k2;have S2:=Hh G;have F2:=Hh x;clear G x
 go_upto_region 3 with fail
 clear xv
 go_loopw [16] (fun i wr=>∃ (j:Nat) (l':Ub),i=Iz j∧j≤its.length∧sC B wr g m l'∧Out l (91::dK (P.take j)) l'∧l'.length≤900000+d∧WFr 5 g wX wr) (fun i _=>its.length - (intOf i).toNat)
 case atStart=>exact ⟨0,_,rfl,Av _,S2.o,.inl rfl,by rw [Lg];show l.length+1≤_;omega,F2.o⟩
 case round=>
  obtain ⟨j,l',rfl,hj,c,f,Y,s⟩:=hrel;have xd:B≤wr.heap.size:=Af hB (Af FX.o.1.size s.1.size);have a:=FX.o.trans s;have x5:=Hh (xt.o.same (a.1.block m xf));have xq:=Hh (HT.o.on a.1)
  by_cases xm:j<its.length
  ·have xj:(j:Int)<(its.length:Int):=by omega
   have yi:(0:Int)≤(j:Int):=by omega
   obtain ⟨-,-,-,b,n,y,a3,l3,c3,a4,l4,c4,rfl,x8,hx,xb,k0,k1,k2,k3,k4,k5⟩:=H.o.at xm;have q:=HS.o b x8;have q0:=(a.1.cell (p:=⟨b,n+j * 6,none⟩) q).trans k0;have q1:=(a.1.cell (p:=⟨b,n+j * 6+1,none⟩) q).trans k1;have q2:=(a.1.cell (p:=⟨b,n+j * 6+2,none⟩) q).trans k2;have q3:=(a.1.cell (p:=⟨b,n+j * 6+3,none⟩) q).trans k3;have q4:=(a.1.cell (p:=⟨b,n+j * 6+4,none⟩) q).trans k4;have q5:=(a.1.cell (p:=⟨b,n+j * 6+5,none⟩) q).trans k5;clear k0 k1 k2 k3 k4 k5;have xw:=HV.o.1 y (Ao hx);have x6:=xx.o.2 y (Ao hx);have xi:P[j]?=some (aR d y):=by rw [HP.o,Be,hx];rfl
   have xa:=fU xi;have bA:=(Br wr.heap.size wr).alloc (o:=.cells #[Iz y.kind,.bool y.bool,Iz y.num,.string y.text,.slice a3 l3 c3,.slice a4 l4 c4] 28) (Lr _);have kA:=Hn wr (.cells #[Iz y.kind,.bool y.bool,Iz y.num,.string y.text,.slice a3 l3 c3,.slice a4 l4 c4] 28);have xy:=c.lt;have fA:=WFr.of_below (TB:=5) (g:=g) bA (Bw xy);have sA:=c.below bA;have I:B≤(wr.alloc (.cells #[Iz y.kind,.bool y.bool,Iz y.num,.string y.text,.slice a3 l3 c3,.slice a4 l4 c4] 28)).heap.size:=Af xd bA.size;have xz:wr.heap.size ≠ g:=by omega
   have x7:=Hh xb;have HX:=Hh hx;have k:=Hh f;have xl:=Hh xa;have V:=Hh s;have A:=Hh a;clear xb hx f xa s xi c
   go_upto_region 5 with fail
   clear q0 q1 q2 q3 q4 q5;generalize wr.alloc (.cells #[Iz y.kind,.bool y.bool,Iz y.num,.string y.text,.slice a3 l3 c3,.slice a4 l4 c4] 28)=wa at bA kA fA sA I ⊢;have t:=Hh (yX wa sA);have KA:=Hh kA;have FA:=Hh fA;have SA:=Hh sA;clear bA kA fA sA
   by_cases E:65536<l'.length
   ·rw [Ap E] at t
    go_wp2_with (go_at_call 141;(with_reducible refine (t.o).mono ?_);rintro e w3 ⟨rfl,rfl⟩)
    go_end0
    exact ⟨rfl,l',SA.o,k.o.cut E (sY P j 91 93),by omega,A.o.trans FA.o⟩
   ·rw [Ar E] at t
    have ya:l'.length≤65536:=by omega
    go_upto_if 24 with ((with_reducible refine (t.o).mono ?_);rintro e w3 ⟨rfl,rfl⟩)
    go_cut [] from 24 to 42 (fun wx=>sC B wx g m (l'++(if j=0 then [] else [44]))∧WFr 5 g wa wx)
    case first=>
     by_cases yc:0<j
     ·have X:(0:Int)<(j:Int):=by omega
      have PC:=Hh (fH ⟨#[44]⟩ wa SA.o (by show l'.length+1≤_;omega) I)
      go_wp2_with (go_at_call 160;(with_reducible refine (PC.o).mono ?_);rintro e w4 ⟨rfl,r,u⟩)
      go_meet
      case rel=>exact ⟨by rw [Ae (by omega)];exact r,u⟩
     ·have X:¬ (0:Int)<(j:Int):=by omega
      go_wp2
      go_meet
      case rel=>exact ⟨by rw [Am (by omega),By];exact SA.o,WFr.refl _ _ _⟩
    case rest=>
     obtain ⟨v,h⟩:=hcut;obtain ⟨l5,C⟩:∃l5,l5=l'++(if j=0 then [] else [44]):=⟨_,rfl⟩
     rw [←C] at v;have yb:l5.length≤65537:=by
      rw [C,Lg];have:(if j=0 then ([]:Ub) else [44]).length≤1:=by split <;> simp
      omega
     have K:=FA.o.trans h;have yd:=aA ((V.o.trans K).2 _ _ xg KX.o iQ);have xc:=h.2 _ _ xz KA.o iQ;have xp:B≤wc.heap.size:=Af I h.1.size;have F:=Hh K;have xe:=Hh C;have x9:=Hh h;clear K C h t;have ye:=aA xc;have N7:=Hh (HI.o D S _ y wc B g m _ v (x5.o.same (F.o.1.block m xf)) xp (by omega) (x7.o.same fun b hb=>(F.o.1.block b (HS.o b hb)).trans (A.o.1.block b (HS.o b hb))) HS.o xw x6 (xq.o.on F.o.1))
     have xs:=F;clear v xc
     go_wp2_with (go_at_call 140;(with_reducible refine (N7.o).mono ?_);rintro e w8 ⟨rfl,l8,W,M,Q,xk⟩)
     go_roundw
     case rel=>
      refine ⟨j+1,l8,by go_num,by omega,W,?_,Q,V.o.trans (xs.o.trans xk)⟩
      have h1:Out l (91::dK (P.take j)) l':=k.o;have h2:Out l' ((if j=0 then [] else [44])++aR d y) l8:=by
       rcases M with e8 | ⟨h8,h9⟩
       ·exact .inl (by rw [e8,xe.o];simp)
       ·refine .inr ⟨h8,?_⟩
        simp only [xe.o,Lg,Ag,Bz,ByteArray.size] at h9 ⊢;omega
      have h3:=h1.more E h2;rw [xl.o];exact h3
     case measure=>simp [intOf];omega
  ·have xj:¬ (j:Int)<(its.length:Int):=by omega
   have yf:P.length≤its.length:=by rw [HP.o];simp [Dg];try omega
   rw [Ak (by omega)] at f
   have PC:=Hh (fH ⟨#[93]⟩ wr c (by show l'.length+1≤_;have:=Y;omega) xd)
   have A:=Hh a;have k:=Hh f;clear f c s a
   go_wp2_with (go_at_call 160;(with_reducible refine (PC.o).mono ?_);rintro e w4 ⟨rfl,r,u⟩)
   go_end0
   refine ⟨rfl,l'++[93],r,k.o.push [93],by rw [Lg];show l'.length+1≤_;omega,A.o.trans u⟩
theorem RM {d:Nat} (hd:d<99000) (IH:qM d) {D:Nat} {S:Nat→Prop} (a1:Option Addr) (R c1:Nat) (a2:Option Addr) (l2 c2:Nat) (ns:List Bt) (its:List ND) (w:World) {B g m:Nat} {l:Ub} (c:sC B w g m l) (xo:eQ w m) (hB:B≤w.heap.size) (hl:l.length≤460000)
 (xf:bH S w (.slice a1 R c1) ns) (xg:cE (aD D S w) S w (.slice a2 l2 c2) its) (hS:∀b,S b→b<g) (hv:aC (d+1) (.mk 5 false 0 ⟨#[]⟩ ns its)=true) (hn:aP (d+1) (.mk 5 false 0 ⟨#[]⟩ ns its)=true) (hT:ITb g w) (v:ns.length=its.length) :
 Calls prog 162 #[.pointer (some ⟨g,0,none⟩),.agg #[Iz 5,.bool false,Iz 0,.string ⟨#[]⟩,.slice a1 R c1,.slice a2 l2 c2],.string ⟨#[123]⟩,.string ⟨#[125]⟩] w (aFs B g m (d+1) l (aR (d+1) (.mk 5 false 0 ⟨#[]⟩ ns its)) w):=by
 have xa:=cG hn;have I:=aX hv;simp only [Nc,ND.kind,ND.bool,ND.num,ND.text,ND.names,ND.items] at xa I;rw [sH];obtain ⟨P,hP⟩:∃P,P=List.zipWith (fun s y=>bE s.data.toList++58::aR d y) ns its:=⟨_,rfl⟩
 rw [←hP];obtain ⟨ai,ci,ei,y6,y5,-⟩:=id xg;have yi:l2=its.length:=by cases ei;rfl
 subst yi;clear ei;have yc:=I.2.1;have x5:R=ns.length:=by obtain ⟨_,_,e,_⟩:=id xf;cases e;rfl
 have yg:=Hh x5;have xx:=Hh v;clear x5 v;have yd:=c.lt;have xd:=c.le;have bX:=(Br w.heap.size w).alloc (o:=.cells #[Iz 5,.bool false,Iz 0,.string ⟨#[]⟩,.slice a1 R c1,.slice a2 its.length c2] 28) (Lr _);have kX:=Hn w (.cells #[Iz 5,.bool false,Iz 0,.string ⟨#[]⟩,.slice a1 R c1,.slice a2 its.length c2] 28);have fX:=WFr.of_below (TB:=5) (g:=g) bX (Bw yd);have V:=c.below bX;have xc:B≤(w.alloc (.cells #[Iz 5,.bool false,Iz 0,.string ⟨#[]⟩,.slice a1 R c1,.slice a2 its.length c2] 28)).heap.size:=Af hB bX.size;generalize yl:w.alloc (.cells #[Iz 5,.bool false,Iz 0,.string ⟨#[]⟩,.slice a1 R c1,.slice a2 its.length c2] 28)=wX at bX kX fX V xc;have PO:=Hh (fH ⟨#[123]⟩ wX V (by show l.length+1≤_;omega) xc)
 have H:=Hh xg;have HN:=Hh xf;have HS:=Hh hS;have HV:=Hh I;have yo:=Hh xa;have HT:=Hh hT;have HP:=Hh hP;have HI:=Hh IH;have yk:=Hh xo;have FX:=Hh fX;have KX:=Hh kX;have xw:w.heap.size ≠ g:=by omega
 clear xg xf hS I xa hT hP IH c xo fX kX V xc bX hv hn
 go_enter func162,ntmps162
 go_upto_region 1 with fail
 go_upto_region 2 with ((with_reducible refine (PO.o).mono ?_);rintro e w2 ⟨rfl,M,G⟩)
 clear yl;have k2:=G.2 _ _ xw KX.o iQ;have ym:=aA k2;clear k2;have S2:=Hh M;have F2:=Hh G;clear M G
 go_upto_region 3 with fail
 clear ym
 go_loopw [16] (fun i wr=>∃ (j:Nat) (l':Ub),i=Iz j∧j≤its.length∧sC B wr g m l'∧Out l (123::dK (P.take j)) l'∧l'.length≤900000+d∧WFr 5 g wX wr) (fun i _=>its.length - (intOf i).toNat)
 case atStart=>exact ⟨0,_,rfl,Av _,S2.o,.inl rfl,by rw [Lg];show l.length+1≤_;omega,F2.o⟩
 case round=>
  obtain ⟨j,l',rfl,hj,c,f,xn,A⟩:=hrel;have xt:B≤wr.heap.size:=Af hB (Af FX.o.1.size A.1.size);have a:=FX.o.trans A;have xz:=Hh (yk.o.same (a.1.block m xd));have yf:=Hh (HT.o.on a.1)
  by_cases yb:j<its.length
  ·have x7:(j:Int)<(its.length:Int):=by omega
   have y8:(0:Int)≤(j:Int):=by omega
   obtain ⟨-,-,-,b,q,y,a3,l3,c3,a4,l4,c4,rfl,ys,hx,xq,k0,k1,k2,k3,k4,k5⟩:=H.o.at yb;have r:=HS.o b ys;have q0:=(a.1.cell (p:=⟨b,q+j * 6,none⟩) r).trans k0;have q1:=(a.1.cell (p:=⟨b,q+j * 6+1,none⟩) r).trans k1;have q2:=(a.1.cell (p:=⟨b,q+j * 6+2,none⟩) r).trans k2;have q3:=(a.1.cell (p:=⟨b,q+j * 6+3,none⟩) r).trans k3;have q4:=(a.1.cell (p:=⟨b,q+j * 6+4,none⟩) r).trans k4;have q5:=(a.1.cell (p:=⟨b,q+j * 6+5,none⟩) r).trans k5;clear k0 k1 k2 k3 k4 k5;have yn:=HV.o.1 y (Ao hx);have yq:=yo.o.2 y (Ao hx);have xr:j<ns.length:=by have:=xx.o;omega
   obtain ⟨-,-,-,bn,on,rfl,x9,xe,y2⟩:=HN.o.at xr;obtain ⟨t,W⟩:∃s,s=ns[j]:=⟨_,rfl⟩;have X:ns[j]?=some t:=by rw [W];exact Ac xr
   rw [←W] at xe;have x6:P[j]?=some (bE t.data.toList++58::aR d y):=by rw [HP.o];exact aAl X hx
   have y1:=gX (HV.o.2.2.2 t (Ao X));have yw:t.size≤65536:=by have h:t.data.toList.length=t.size:=(by rw [Ah];rfl);omega
   have y0:=nL t.data.toList;have yu:(j:Int)<(R:Int):=by have:=yg.o;have:=xx.o;omega
   have xk:=HS.o bn x9;clear W X;have xp:=fU x6;have bA:=(Br wr.heap.size wr).alloc (o:=.cells #[Iz y.kind,.bool y.bool,Iz y.num,.string y.text,.slice a3 l3 c3,.slice a4 l4 c4] 28) (Lr _);have kA:=Hn wr (.cells #[Iz y.kind,.bool y.bool,Iz y.num,.string y.text,.slice a3 l3 c3,.slice a4 l4 c4] 28);have yp:=c.lt;have fA:=WFr.of_below (TB:=5) (g:=g) bA (Bw yp);have sA:=c.below bA;have U:B≤(wr.alloc (.cells #[Iz y.kind,.bool y.bool,Iz y.num,.string y.text,.slice a3 l3 c3,.slice a4 l4 c4] 28)).heap.size:=Af xt bA.size;have xy:wr.heap.size ≠ g:=by omega
   have yr:=Hh xq;have HX:=Hh hx;have n:=Hh f;have ya:=Hh xp;have xj:=Hh A;have u:=Hh a;clear xq hx f xp A x6 c
   go_upto_region 5 with fail
   clear q0 q1 q2 q3 q4 q5;generalize wr.alloc (.cells #[Iz y.kind,.bool y.bool,Iz y.num,.string y.text,.slice a3 l3 c3,.slice a4 l4 c4] 28)=wa at bA kA fA sA U ⊢;have C:=Hh (yX wa sA);have KA:=Hh kA;have FA:=Hh fA;have SA:=Hh sA;clear bA kA fA sA
   by_cases L:65536<l'.length
   ·rw [Ap L] at C
    go_wp2_with (go_at_call 141;(with_reducible refine (C.o).mono ?_);rintro e w3 ⟨rfl,rfl⟩)
    go_end0
    exact ⟨rfl,l',SA.o,n.o.cut L (sY P j 123 125),by omega,u.o.trans FA.o⟩
   ·rw [Ar L] at C
    have yx:l'.length≤65536:=by omega
    go_upto_if 24 with ((with_reducible refine (C.o).mono ?_);rintro e w3 ⟨rfl,rfl⟩)
    go_cut [] from 24 to 42 (fun wx=>sC B wx g m (l'++(if j=0 then [] else [44]))∧WFr 5 g wa wx)
    case first=>
     by_cases yz:0<j
     ·have xm:(0:Int)<(j:Int):=by omega
      have PC:=Hh (fH ⟨#[44]⟩ wa SA.o (by show l'.length+1≤_;omega) U)
      go_wp2_with (go_at_call 160;(with_reducible refine (PC.o).mono ?_);rintro e w4 ⟨rfl,z,E⟩)
      go_meet
      case rel=>exact ⟨by rw [Ae (by omega)];exact z,E⟩
     ·have xm:¬ (0:Int)<(j:Int):=by omega
      go_wp2
      go_meet
      case rel=>exact ⟨by rw [Am (by omega),By];exact SA.o,WFr.refl _ _ _⟩
    case rest=>
     obtain ⟨T,k⟩:=hcut;obtain ⟨l5,K⟩:∃l5,l5=l'++(if j=0 then [] else [44]):=⟨_,rfl⟩
     rw [←K] at T;have yy:l5.length≤65537:=by
      rw [K,Lg];have:(if j=0 then ([]:Ub) else [44]).length≤1:=by split <;> simp
      omega
     have Z:=FA.o.trans k;have yh:=aA ((xj.o.trans Z).2 _ _ xw KX.o iQ);have xs:=k.2 _ _ xy KA.o iQ;have Y:B≤wc.heap.size:=Af U k.1.size;have xh:=Hh Z;have xv:=Hh K;have yv:=Hh k;clear Z K k C;have Q5:=Hh (zZ t wc T (xz.o.same (xh.o.1.block m xd)) (by omega) Y)
     have yt:=(xh.o.1.cell (p:=⟨bn,on+j,none⟩) xk).trans ((u.o.1.cell (p:=⟨bn,on+j,none⟩) xk).trans xe);have ye:=Hh xs;clear xs xe
     go_upto_region 10 with ((with_reducible refine (Q5.o).mono ?_);rintro e w6 ⟨rfl,O,F⟩)
     have y7:(l5++bE t.data.toList).length≤460000 - 1:=by rw [Lg];omega
     have P7:=Hh (fH ⟨#[58]⟩ w6 O (by show (l5++bE t.data.toList).length+1≤_;omega) (Af Y F.1.size))
     have xu:=Hh F;clear O F yh yt
     go_upto_region 11 with ((with_reducible refine (P7.o).mono ?_);rintro e w7 ⟨rfl,Q,N⟩)
     have J:=xu.o.trans N;have y3:=aA (J.2 _ _ xy ye.o iQ);have x:=xh.o.trans J;have N7:=Hh (HI.o D S _ y w7 B g m _ Q (xz.o.same (x.1.block m xd)) (Af Y J.1.size) (by rw [Lg];show (l5++bE t.data.toList).length+1≤_;omega) (yr.o.same fun b hb=>(x.1.block b (HS.o b hb)).trans (u.o.1.block b (HS.o b hb))) HS.o yn yq (yf.o.on x.1))
     have yj:=Hh x;clear Q N J x
     go_wp2_with (go_at_call 140;(with_reducible refine (N7.o).mono ?_);rintro e w8 ⟨rfl,l8,xl,xb,xi,x8⟩)
     go_roundw
     case rel=>
      refine ⟨j+1,l8,by go_num,by omega,xl,?_,xi,xj.o.trans (yj.o.trans x8)⟩
      have h1:Out l (123::dK (P.take j)) l':=n.o;have h2:Out l' ((if j=0 then [] else [44])++(bE t.data.toList++58::aR d y)) l8:=by
       rcases xb with e8 | ⟨h8,h9⟩
       ·exact .inl (by rw [e8,xv.o];simp)
       ·refine .inr ⟨h8,?_⟩
        simp only [xv.o,Lg,Ag,Bz,ByteArray.size] at h9 ⊢;omega
      have h3:=h1.more L h2;rw [ya.o];exact h3
     case measure=>simp [intOf];omega
  ·have x7:¬ (j:Int)<(its.length:Int):=by omega
   have y4:P.length≤its.length:=by rw [HP.o];simp [Dg];try omega
   rw [Ak (by omega)] at f
   have PC:=Hh (fH ⟨#[125]⟩ wr c (by show l'.length+1≤_;have:=xn;omega) xt)
   have u:=Hh a;have n:=Hh f;clear f c A a
   go_wp2_with (go_at_call 160;(with_reducible refine (PC.o).mono ?_);rintro e w4 ⟨rfl,z,E⟩)
   go_end0
   refine ⟨rfl,l'++[125],z,n.o.push [125],by rw [Lg];show l'.length+1≤_;omega,u.o.trans E⟩
theorem QY {d:Nat} (hd:d<99000) (U:qM d):qM (d+1):=by
 intro D S cs x w B g m l u I hB hl h hS Q T Y;obtain ⟨J,L,c1,M,K,c2,rfl⟩:=h.slices;have G:=cG T;have C:=aX Q;cases D with
 | zero=>exact h.elim
 | succ D=>
 obtain ⟨vn,vi,e,V,A,E⟩:=h;simp only [Bu,Dd,Dj] at e;obtain ⟨rfl,rfl⟩:=e;have hk:=iF Q;obtain ⟨k,b,n,t,ns,its⟩:=x;simp only [Nc,ND.kind,ND.bool,ND.num,ND.text,ND.names,ND.items,nd0,ND.mk.injEq,Dj,Dd] at hk V A E G C ⊢;have xe:=u.lt;have xh:=u.le;have R:=(Br w.heap.size w).alloc (o:=.cells #[Iz k,.bool b,Iz n,.string t,.slice J L c1,.slice M K c2] 28) (Lr _);have N:=WFr.of_below (TB:=5) (g:=g) R (Bw xe);have i:=u.below R;have r:B≤(w.alloc (.cells #[Iz k,.bool b,Iz n,.string t,.slice J L c1,.slice M K c2] 28)).heap.size:=Af hB R.size;have v:=Y.on N.1;have z:eQ (w.alloc (.cells #[Iz k,.bool b,Iz n,.string t,.slice J L c1,.slice M K c2] 28)) m:=I.same (N.1.block m xh);have p:=A.same (w':=w.alloc (.cells #[Iz k,.bool b,Iz n,.string t,.slice J L c1,.slice M K c2] 28)) fun q hq=>N.1.block q (hS q hq)
 have j:=E.same (w':=w.alloc (.cells #[Iz k,.bool b,Iz n,.string t,.slice J L c1,.slice M K c2] 28)) (R':=aD D S (w.alloc (.cells #[Iz k,.bool b,Iz n,.string t,.slice J L c1,.slice M K c2] 28))) (fun q hq=>N.1.block q (hS q hq)) fun cs y q=>q.same fun q hq=>N.1.block q (hS q hq)
 have W:=Hh N;rcases hk with ⟨rfl,rfl,rfl,rfl,rfl,rfl⟩ | ⟨rfl,rfl,rfl,rfl,rfl⟩ | ⟨rfl,rfl,rfl,rfl,rfl⟩ | ⟨rfl,rfl,rfl,rfl,rfl⟩ | ⟨rfl,rfl,rfl,rfl,rfl⟩ | ⟨⟨rfl,rfl,rfl,rfl⟩,f⟩
 ·have P:=Hh (fH ⟨#[110,117,108,108]⟩ _ i (by show l.length+4≤_;omega) r)
  clear p j A E G C Q T Y U V u I v z N R i r
  go_enter func140,ntmps140
  go_wp2_with (go_at_call 160;(with_reducible refine (P.o).mono ?_);rintro e O ⟨rfl,c,a⟩)
  go_end0
  exact ⟨rfl,_,c,.inl rfl,by rw [Lg];show l.length+4≤_;omega,W.o.trans a⟩
 ·have F:=Hh (fun wx=>NE b wx)
  have P:=Hh (fun s X=>fH s _ i X r)
  clear p j A E G C Q T Y U V u I v z N R i r;cases b
  ·simp only [Bool.false_eq_true,if_false,if_true] at F
   have P':=Hh (P.o ⟨#[102,97,108,115,101]⟩ (show l.length+5≤1000000 by omega))
   go_enter func140,ntmps140
   go_wp2_with (first | (go_at_call 98;(with_reducible refine (F.o _).mono ?_);rintro e O ⟨rfl,rfl⟩) | (go_at_call 160;(with_reducible refine (P'.out).mono ?_);rintro e O ⟨rfl,c,a⟩))
   go_end0
   exact ⟨rfl,_,c,.inl rfl,by rw [Lg];show l.length+5≤_;omega,W.o.trans a⟩
  ·simp only [Bool.false_eq_true,if_false,if_true] at F
   have P':=Hh (P.o ⟨#[116,114,117,101]⟩ (show l.length+4≤1000000 by omega))
   go_enter func140,ntmps140
   go_wp2_with (first | (go_at_call 98;(with_reducible refine (F.o _).mono ?_);rintro e O ⟨rfl,rfl⟩) | (go_at_call 160;(with_reducible refine (P'.out).mono ?_);rintro e O ⟨rfl,c,a⟩))
   go_end0
   exact ⟨rfl,_,c,.inl rfl,by rw [Lg];show l.length+4≤_;omega,W.o.trans a⟩
 ·obtain ⟨hw,-⟩:=G
  unfold dD at hw;rw [An,As,As] at hw;have xj:=Lib.itoa_length_le n hw.1 hw.2;have F:=Hh (fun wx h=>MV n hw.1 hw.2 wx h)
  have HT:=Hh v.here;obtain ⟨s,X⟩:∃s:Bt,s=⟨(Lib.itoa n).toArray⟩:=⟨_,rfl⟩;rw [←X] at F;have xg:s.size≤100:=by rw [X,qL];omega
  have xd:Hid (s.data.toList=Lib.itoa n):=Hh (by rw [X])
  have P:=Hh (fun (O:World) (hb:Below (w.alloc (.cells #[Iz 2,.bool false,Iz n,.string ⟨#[]⟩,.slice J L c1,.slice M K c2] 28)).heap.size (w.alloc (.cells #[Iz 2,.bool false,Iz n,.string ⟨#[]⟩,.slice J L c1,.slice M K c2] 28)) O)=>fH s O (i.below hb) (show l.length+s.size≤1000000 by omega) (Af r hb.size))
  have xf:g≤(w.alloc (.cells #[Iz 2,.bool false,Iz n,.string ⟨#[]⟩,.slice J L c1,.slice M K c2] 28)).heap.size:=Bw i.lt;clear p j A E C Q T Y U V u I v z N R i r X
  go_enter func140,ntmps140
  go_wp2_with (first | (go_at_call 99;(with_reducible refine (F.o _ HT.o).mono ?_);rintro e O ⟨rfl,xc⟩) | (go_at_call 160;(with_reducible refine (P.o _ xc).mono ?_);rintro e w3 ⟨rfl,xb,xa⟩))
  go_end0
  refine ⟨rfl,_,xb,.inl (by rw [xd.o];rfl),?_,W.o.trans ((WFr.of_below xc xf).trans xa)⟩
  rw [Lg,xd.o];omega
 ·have X:=gX C.2.2.1
  have xg:t.data.toList.length=t.size:=by rw [Ah];rfl
  have P:=Hh (zZ t _ i z (by omega) r)
  have xi:=nL t.data.toList;clear p j A E G C Q T Y U V u I v z N R i r
  go_enter func140,ntmps140
  go_wp2_with (go_at_call 161;(with_reducible refine (P.o).mono ?_);rintro e O ⟨rfl,c,a⟩)
  go_end0
  exact ⟨rfl,_,c,.inl rfl,by rw [Lg];omega,W.o.trans a⟩
 ·have P:=Hh (RP (by omega) U J L c1 M K c2 [] its _ i z r hl p j hS Q T v)
  clear p j A E G C Q T Y U V u I v z N R i r;have ck:=aA (Hn w (.cells #[Iz 4,.bool false,Iz 0,.string ⟨#[]⟩,.slice J L c1,.slice M K c2] 28))
  go_enter func140,ntmps140
  go_wp2_with (go_at_call 162;(with_reducible refine (P.o).mono ?_);rintro e O ⟨rfl,Z,c,H,f,a⟩)
  go_end0
  exact ⟨rfl,Z,c,H,f,W.o.trans a⟩
 ·have P:=Hh (RM (by omega) U J L c1 M K c2 ns its _ i z r hl p j hS Q T v f)
  clear p j A E G C Q T Y U V u I v z N R i r f;have ck:=aA (Hn w (.cells #[Iz 5,.bool false,Iz 0,.string ⟨#[]⟩,.slice J L c1,.slice M K c2] 28))
  go_enter func140,ntmps140
  go_wp2_with (go_at_call 162;(with_reducible refine (P.o).mono ?_);rintro e O ⟨rfl,Z,c,H,f,a⟩)
  go_end0
  exact ⟨rfl,Z,c,H,f,W.o.trans a⟩
theorem QX:qM 0:=by
 intro D S j x w B g m l c a e k h i b d f;cases b
theorem ET:∀d,d<99000→qM d
 | 0,_=>QX
 | d+1,h=>QY (by omega) (ET d (by omega))
end Go.Proofs.YtncdpanfefnjlaaGreatDoor