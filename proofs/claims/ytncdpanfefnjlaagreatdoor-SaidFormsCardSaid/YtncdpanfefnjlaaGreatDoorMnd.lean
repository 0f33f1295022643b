import Derived.Test.YtncdpanfefnjlaaGreatDoorNget
import Derived.Test.YtncdpanfefnjlaaGreatDoorMhe
set_option linter.unusedVariables false
set_option linter.unusedSimpArgs false
set_option maxHeartbeats 12800000
set_option maxRecDepth 100000
namespace Go.Proofs.YtncdpanfefnjlaaGreatDoor
open Go.Proofs.Tryz
open Go Go.Maps Go.ChangeShapes Go.WideShapes Go.ChangeAt Go.RowKit
theorem PrM.row {B:Nat} {w w':World} {g:Nat} {r:Ub} {row:Option Nat} (h:PrM B w g r) (a:w.grownBy w' row) (c:∀b,row=some b→g<b):PrM B w' g r:=by
 cases row with
 | some b=>exact h.kept a (c b rfl)
 | none=>
  have j:=h.lt;obtain ⟨d,i,f⟩:=h;exact ⟨(a.block g j (by intro e;cases e)).trans d,i.below ((Br B w).grown a (by omega) (fun k e=>by cases e)),f⟩
def aFu (V:ND→Ub→Prop) (d:Nat) (g h:Nat) (r:Ub) (w:World) (e:Ending) (w':World):Prop:=∃ (f:Vl) (x:ND) (c:Bool) (a:Ub),e=.returned (.tuple #[.agg f.toArray,.bool c])∧aD (d+1) (fun b=>w.heap.size≤b∧b<w'.heap.size) w' f x∧PrM h w' g a∧w.grownBy w' (some g)∧a.length≤r.length∧(c=true→a.length<r.length+1)∧(iM (d+1) x∧aP (d+1) x=true)∧∀y t,V y t→c=true∧x=y∧a=t
theorem rT {V:ND→Ub→Prop} {d g l:Nat} {r c:Ub} {w f:World} (k:Int) (b:Bool) (z:Int) (t:Bt) (e:Bool) (u:PrM l f g c) (n:w.grownBy f (some g)) (i:g<w.heap.size) (o:c.length≤r.length) (h:e=true→c.length<r.length+1) (s:t.size≤maxLen - 2) (m:dD z=true)
 (p:∀y j,V y j→e=true∧(.mk k b z t [] [])=y∧c=j) :
 aFu V d g l r w (.returned (.tuple #[.agg #[Iz k,.bool b,Iz z,.string t,Sn,Sn],.bool e])) (dJ f w.heap.size (Iz k) (.bool b) (Iz z) (.string t) (Sn) (Sn)):=by
 have a:=aO f w.heap.size (Iz k) (.bool b) (Iz z) (.string t) (Sn) (Sn);exact ⟨[Iz k,.bool b,Iz z,.string t,Sn,Sn],_,e,c,rfl,(cJ _ _ k b z t s).deeper (by omega),u.kept a i,gO n a (Lr _),o,h,⟨⟨by simp [ND.items],fun y q=>by simp [ND.items] at q⟩,by unfold aP;show (dD z && _)=true;rw [m];rfl⟩,p⟩
def JO (V:ND→Ub→Prop) (d:Nat) (g h:Nat) (r:Ub) (w:World) (e:Ending) (w':World):Prop:=∃ (f:Vl) (x:ND) (c:Bool) (a:Ub),e=.returned (.tuple #[.agg f.toArray,.bool c])∧aD (d+1) (fun b=>w.heap.size≤b∧b<w'.heap.size) w' f x∧PrM h w' g a∧w.grownBy w' (some g)∧a.length≤r.length∧(c=true→a.length<r.length)∧(iM (d+1) x∧aP (d+1) x=true)∧∀y t,V y t→c=true∧x=y∧a=t
def pW (d:Nat):Prop:=∀ (g a:Nat) (r:Ub) (w:World),PrM a w g r→r.length≤100000→Calls prog 150 #[.pointer (some ⟨g,0,none⟩),Iz (d:Int)] w (JO (MIr d r) d g a r w)
structure ISm (d:Nat) (k:Int) (g nb C mb:Nat) (r1:Ub) (w wx:World) (vn vi:Value) (ns:List Bt) (A:List NC) (rr:Ub):Prop where
 par:PrM mb wx g rr
 st:NSt 28 9 (d+1) w wx g nb C k vn vi ns A
 fine:∀y,y ∈ A→iM (d+1) y.2∧aP (d+1) y.2=true
 len:A.length+rr.length≤r1.length
theorem MD (d:Nat) (hd:d≤20) (PN:pW d) (k:Int) (hk:k=4∨k=5) (n:Nat) (hn:n<4294967296) {g mb:Nat} {r r1:Ub} (w:World) (h:PrM mb w g r1) (hr:r1.length≤100000) (y9:MLr d k n r [] [] r1):Calls prog 178 #[.pointer (some ⟨g,0,none⟩),Iz k,Iz (n:Int),Iz ((d:Int)+1)] w (aFu (MIr (d+1) r) (d+1) g mb r1 w):=by
 have xo:=h.lt;obtain ⟨z1,U⟩:∃o,o=Obj.cells Z6 28 (0,0):=⟨_,rfl⟩;obtain ⟨z2,xb⟩:∃o,o=Obj.cells #[Iz k,.bool false,Iz 0,.string ⟨#[]⟩,Sn,Sn] 28 (0,0):=⟨_,rfl⟩;have yu:=Hn w z1;have hz:(w.alloc z1).heap.size=w.heap.size+1:=by simp
 have zm:=(Bj (w.alloc z1) z2 _ (Aa yu)).trans yu;have yx:=Hn (w.alloc z1) z2;have bb:=((Br w.heap.size w).alloc (o:=z1) (Lr _)).alloc (o:=z2) (by rw [hz];omega)
 have yv:=h.below bb;have zn:=aJ (dV w z1 (some g)) (dV (w.alloc z1) z2 (some g));obtain ⟨nb,xa⟩:∃nb,nb=(w.alloc z1).heap.size:=⟨_,rfl⟩;rw [←xa] at yx;obtain ⟨W2,xz⟩:∃W,W=(w.alloc z1).alloc z2:=⟨_,rfl⟩;have xu:NSt 28 9 (d+1) w W2 g nb W2.heap.size k (Sn) (Sn) [] []:=by
  rw [xz];exact NSt.begin (by rw [zm,U]) (by rw [yx,xb]) xo (by omega) zn
 rw [←xz] at yv;obtain ⟨C,hC⟩:∃C,C=W2.heap.size:=⟨_,rfl⟩;rw [←hC] at xu;have xk:=Hh xu;have y6:=Hh yv;have yz:=Hh PN;have xq:=Hh y9;rw [U,xb] at xz;rw [U] at xa;have zg:(w.alloc (.cells Z6 28)).heap.size=w.heap.size+1:=by simp
 rw [zg] at xa;clear xu yv yu zm yx bb zn hC PN h hz U xb zg y9
 go_enter func178,ntmps178
 go_upto_region 2 with fail
 rw [←xz];rw [←xa];have uc:=Hh xa;clear xz xa z1 z2;obtain ⟨ip,y7,zo,U,xb⟩:=rE;obtain ⟨iq,y0,zu,z9,zw⟩:=rD;have zk:=Hh y7;have z7:=Hh y0;clear y7 y0;have zi:=underlying26;have zy:=underlying25
 go_upto_region 3 with fail
 go_loopw [18] (fun i wr=>∃ (vn vi:Value) (ns:List Bt) (A:List NC) (rr:Ub),i=Iz (A.length:Int)∧ISm d k g nb C mb r1 w wr vn vi ns A rr∧MLr d k n r ns (aG A) rr∧ns.length≤A.length) (fun i _=>n - (intOf i).toNat)
 case atStart=>exact ⟨_,_,[],[],r1,rfl,⟨y6.o,xk.o,(fun y E=>by simp at E),by simp⟩,xq.o,Lr _⟩
 case round=>
  clear xk y6 xq;obtain ⟨vn,vi,ns,A,rr,rfl,hI,x6,ye⟩:=hrel;have xg:=hI.len;have HI:=Hh hI;have xq:=Hh x6;have X:(aG A).length=A.length:=by simp [aG]
  have zh:=Hh X
  by_cases Y:A.length<n
  ·have yi:(A.length:Int)<(n:Int):=by omega
   have uh:IntKind.i64.wrap ((A.length:Int)+1)=(A.length:Int)+1:=by rw [IntKind.wrap_i64];omega
   obtain ⟨ai,ci,zq⟩:=hI.st.viForm;subst zq;have ui:(0:Int)≤(d:Int):=by omega
   have ue:(d:Int)≤20:=by omega
   clear hI x6 X
   by_cases xc:k=5
   ·have yh:(k == 5)=true:=by simpa using xc
    have NM:=Hh (yz.o g mb rr wr HI.o.par (by omega))
    have z4:=Hh xc;clear xc
    go_upto_region 6 with ((with_reducible refine (NM.o).mono ?_);rintro e2 w2 ⟨uf,x0,ok,ry,rfl,a,zb,ze,zv,yf,zr,y4⟩;go_loud ((obtain ⟨b1,m1,d1,b2,m2,d2,xp⟩:=a.slices);subst xp))
    have yn:x0.text.size≤maxLen - 2:=by obtain ⟨_,_,-,ht,-,-⟩:=a;exact ht
    have bM:=(Br w2.heap.size w2).alloc (o:=.cells (Na x0 b1 m1 d1 b2 m2 d2) 28) (Lr _);have x8:=Hn w2 (.cells (Na x0 b1 m1 d1 b2 m2 d2) 28);have ys:=(HI.o.st.grown ze).below bM;have xe:=zb.below bM;have yb:=Hh (xq.o.text z4.o (by rw [zh.o];exact Y) y4)
    obtain ⟨bm,yk⟩:∃b,b=w2.heap.size:=⟨_,rfl⟩;rw [←yk] at x8
    try rw [←yk]
    generalize w2.alloc _=w3 at bM x8 ys xe ⊢;have T:=Hh ys;have yt:=Hh xe;have ub:=Hh yf;have z6:=aA x8;clear y4 zb ze NM yf a ys xe bM yk zr;obtain ⟨sl,yc⟩:∃sl,sl=x0.text:=⟨_,rfl⟩;rw [←yc] at yn yb z6;clear yc x8;cases ok with
    | false=>
     have x5:Hid (∀y t,¬MIr (d+1) r y t):=Hh (yb.o.1 rfl);have f1:=aE T.o.res;have c1:=aA T.o.res
     go_wp2
     refine aT (v:=.bool false) T.o.res results178 rfl rfl rfl ?_;exact rT 0 false 0 ⟨#[]⟩ false yt.o T.o.gro xo (by omega) (fun h=>by cases h) (by decide) (by decide) (fun y t hV=>absurd hV (x5.o y t))
    | true=>
     have c4:=(aA T.o.nod).2.2.2.2.1;have b4:=(Br w3.heap.size w3).alloc (o:=.cells #[.string sl] 9) (Lr _);have V:=T.o.below b4;have y2:=yt.o.below b4;have zf:=Hn w3 (.cells #[.string sl] 9);have y3:Hid (∀q u,([.string sl]:Vl)[q]?=some u→(w3.alloc (.cells #[.string sl] 9)).cell? ((⟨w3.heap.size,0,none⟩:Addr).add q)=some u):=Hh fun q u hq=>by
      have:=cT _ zf rfl q u hq;rw [Bs,Ca];exact this
     have zj:=Hh V.names.1;have y1:=V.lo.2.2.2;have s:=Hh V;have za:=Hh y2;have yd:sl.size≤maxLen - 2:=yn;clear V y2 zf b4
     go_upto_region 9 with ((refine Ay _ rfl (.tmp 33) (.tmp 36) 25 rfl C 9 iq (.string ⟨#[]⟩) 1 16 zy z7.o zu z9 zw rfl (by decide) vn ns.length _ rfl zj.o ⟨w3.heap.size,0,none⟩ 1 1 [.string sl] rfl rfl y3.o (by intro u hu;simp at hu;subst hu;rfl) (by decide) (by unfold maxLen;omega) (by omega) y1 _ rfl ?_);intro gn cn Wn p c N Y;(have B:=(s.o.apart (.inl rfl) c nb s.o.lo.2.2.1).trans s.o.nod);(have yw:=aE B);(have ym:=aA B);(have l:=Hh (Ai p (Ai c N)));clear p c N B)
     have xm:=s.o.name l.o.1 l.o.2.1 (fV l.o.2.2) yd;have yy:=(za.o.row l.o.2.1 (fun b hb=>by have:=(s.o.names.1.lt b hb).1;have:=s.o.lo;omega)).kept (aV Wn nb 4 (.slice (some ⟨gn,0,none⟩) (ns.length+1) cn)) (by have:=s.o.lo;omega)
     generalize Wn.setCell ⟨nb,4,none⟩ (.slice (some ⟨gn,0,none⟩) (ns.length+1) cn)=wy at xm yy ⊢;have K:=Hh xm;have x9:=Hh yy;have VI:=Hh yb.o.2;have zd:(ns++[sl]).length≤A.length+1:=by rw [Lg];show ns.length+1≤_;omega
     have zc:A.length+ry.length≤r1.length:=by omega
     clear xm yy yb s za l zj y3 T yt c4 yw ym zv yn yh yd;generalize ns++[sl]=ug at K VI zd;have NC:=Hh (yz.o g mb ry wy x9.o (by omega))
     have zp:=K.o.viForm
     go_upto_region 10 with ((with_reducible refine (NC.o).mono ?_);rintro e3 Z ⟨cs,x,ok,r',rfl,a,xy,xw,M,Q,xs,xr⟩;go_loud ((obtain ⟨G,H,c1,F,I,c2,xp⟩:=a.slices);subst xp))
     have bS:=(Br Z.heap.size Z).alloc (o:=.cells (Na x G H c1 F I c2) 28) (Lr _);have D:=(K.o.grown xw).below bS;have S:=xy.below bS;have xj:=Hn Z (.cells (Na x G H c1 F I c2) 28);have xv:=fun (w7:World) (hb:Below Z.heap.size Z w7)=>K.o.fresh a hb
     have P:=a.one;obtain ⟨W6,L⟩:∃W,W=Z.alloc (.cells (Na x G H c1 F I c2) 28):=⟨_,rfl⟩;rw [←L] at bS D S xj;have j:=Hh D;have x7:=Hh S;have yj:=Hh xv;have xn:=Hh bS;have xi:=Hh P;have R:=Hh (Ai xs (VI.o.item xr));have zt:=Hh L;have xx:=Hh (Ai M Q);clear D S xv bS P xs xr a xy xw NC VI M Q
     try rw [←L]
     clear L;cases ok with
     | false=>
      have x5:Hid (∀y t,¬MIr (d+1) r y t):=Hh (R.o.2.1 rfl);have M:=xx.o.1;have f1:=aE j.o.res;have c1:=aA j.o.res
      go_wp2
      refine aT (v:=.bool false) j.o.res results178 rfl rfl rfl ?_;exact rT 0 false 0 ⟨#[]⟩ false x7.o j.o.gro xo (by omega) (fun h=>by cases h) (by decide) (by decide) (fun y t hV=>absurd hV (x5.o y t))
     | true=>
      have M:=xx.o.2 rfl;have c5:=aA j.o.nod;have cx:=aA xj;have b7:=(Br W6.heap.size W6).alloc (o:=.cells (Na x G H c1 F I c2) 28) (Lr _);have m:=j.o.below b7;have xl:=x7.o.below b7;have O:=yj.o _ (xn.o.trans (b7.mono xn.o.size));have xf:=Hn W6 (.cells (Na x G H c1 F I c2) 28);have yo:Hid (∀q u,((Nc x G H c1 F I c2):Vl)[q]?=some u→(W6.alloc (.cells (Na x G H c1 F I c2) 28)).cell? ((⟨W6.heap.size,0,none⟩:Addr).add q)=some u):=Hh fun q u hq=>by
       have:=cT _ xf rfl q u hq;rw [Bs,Ca];exact this
      have yp:=Hh m.items.1;have xh:=m.lo.2.2.2;have f:=Hh m;have yl:=Hh xl;have xt:=Hh O;clear m xl O xf b7
      go_wp2_with ((refine Ay _ rfl (.tmp 50) (.tmp 52) 26 rfl C 28 ip (.agg Z6) 6 88 zi zk.o zo U xb rfl (by decide) (.slice ai A.length ci) A.length _ rfl yp.o ⟨W6.heap.size,0,none⟩ 1 1 (Nc x G H c1 F I c2) rfl rfl yo.o xi.o (by decide) (by unfold maxLen;omega) (by omega) xh _ rfl ?_);intro g8 c8 W8 p c N Y;(have B:=(f.o.apart (.inr rfl) c nb f.o.lo.2.2.1).trans f.o.nod);(have yw:=aE B);(have ym:=aA B);(have l:=Hh (Ai p (Ai c N)));clear p c N B)
      have xd:=f.o.item l.o.1 l.o.2.1 (fV l.o.2.2) xt.o;have yq:=(yl.o.row l.o.2.1 (fun b hb=>by have:=(f.o.items.1.lt b hb).1;have:=f.o.lo;omega)).kept (aV W8 nb 5 (.slice (some ⟨g8,0,none⟩) (A.length+1) c8)) (by have:=f.o.lo;omega)
      go_roundw
      case rel=>
       refine ⟨_,_,_,A++[((Nc x G H c1 F I c2),x)],r',?_,⟨yq,xd,?_,?_⟩,?_,?_⟩
       ·rw [Lg];rfl
       ·intro y E
        rcases Bg.1 E with E | E
        ·exact HI.o.fine y E
        ·cases At.1 E;exact R.o.1
       ·rw [Lg];show A.length+1+r'.length≤r1.length;omega
       ·rw [show aG (A++[((Nc x G H c1 F I c2),x)])=aG A++[x] by simp [aG]];exact R.o.2.2
       ·rw [Lg];show _≤A.length+1;omega
      case measure=>simp [intOf];omega
   ·have yh:(k == 5)=false:=by simpa using xc
    have K:=Hh HI.o.st;have x9:=Hh HI.o.par;have VI:=Hh (xq.o.more xc (by rw [zh.o];exact Y))
    clear xc
    go_upto_region 9 with fail
    have zc:=xg;have zd:ns.length≤A.length+1:=by omega
    generalize z8:wr=wy at K x9 ⊢;generalize rr=ry at *;clear z8;have NC:=Hh (yz.o g mb ry wy x9.o (by omega))
    have zp:=K.o.viForm
    go_upto_region 10 with ((with_reducible refine (NC.o).mono ?_);rintro e3 Z ⟨cs,x,ok,r',rfl,a,xy,xw,M,Q,xs,xr⟩;go_loud ((obtain ⟨G,H,c1,F,I,c2,xp⟩:=a.slices);subst xp))
    have bS:=(Br Z.heap.size Z).alloc (o:=.cells (Na x G H c1 F I c2) 28) (Lr _);have D:=(K.o.grown xw).below bS;have S:=xy.below bS;have xj:=Hn Z (.cells (Na x G H c1 F I c2) 28);have xv:=fun (w7:World) (hb:Below Z.heap.size Z w7)=>K.o.fresh a hb
    have P:=a.one;obtain ⟨W6,L⟩:∃W,W=Z.alloc (.cells (Na x G H c1 F I c2) 28):=⟨_,rfl⟩;rw [←L] at bS D S xj;have j:=Hh D;have x7:=Hh S;have yj:=Hh xv;have xn:=Hh bS;have xi:=Hh P;have R:=Hh (Ai xs (VI.o.item xr));have zt:=Hh L;have xx:=Hh (Ai M Q);clear D S xv bS P xs xr a xy xw NC VI M Q
    try rw [←L]
    clear L;cases ok with
    | false=>
     have x5:Hid (∀y t,¬MIr (d+1) r y t):=Hh (R.o.2.1 rfl);have M:=xx.o.1;have f1:=aE j.o.res;have c1:=aA j.o.res
     go_wp2
     refine aT (v:=.bool false) j.o.res results178 rfl rfl rfl ?_;exact rT 0 false 0 ⟨#[]⟩ false x7.o j.o.gro xo (by omega) (fun h=>by cases h) (by decide) (by decide) (fun y t hV=>absurd hV (x5.o y t))
    | true=>
     have M:=xx.o.2 rfl;have c5:=aA j.o.nod;have cx:=aA xj;have b7:=(Br W6.heap.size W6).alloc (o:=.cells (Na x G H c1 F I c2) 28) (Lr _);have m:=j.o.below b7;have xl:=x7.o.below b7;have O:=yj.o _ (xn.o.trans (b7.mono xn.o.size));have xf:=Hn W6 (.cells (Na x G H c1 F I c2) 28);have yo:Hid (∀q u,((Nc x G H c1 F I c2):Vl)[q]?=some u→(W6.alloc (.cells (Na x G H c1 F I c2) 28)).cell? ((⟨W6.heap.size,0,none⟩:Addr).add q)=some u):=Hh fun q u hq=>by
      have:=cT _ xf rfl q u hq;rw [Bs,Ca];exact this
     have yp:=Hh m.items.1;have xh:=m.lo.2.2.2;have f:=Hh m;have yl:=Hh xl;have xt:=Hh O;clear m xl O xf b7
     go_wp2_with ((refine Ay _ rfl (.tmp 50) (.tmp 52) 26 rfl C 28 ip (.agg Z6) 6 88 zi zk.o zo U xb rfl (by decide) (.slice ai A.length ci) A.length _ rfl yp.o ⟨W6.heap.size,0,none⟩ 1 1 (Nc x G H c1 F I c2) rfl rfl yo.o xi.o (by decide) (by unfold maxLen;omega) (by omega) xh _ rfl ?_);intro g8 c8 W8 p c N Y;(have B:=(f.o.apart (.inr rfl) c nb f.o.lo.2.2.1).trans f.o.nod);(have yw:=aE B);(have ym:=aA B);(have l:=Hh (Ai p (Ai c N)));clear p c N B)
     have xd:=f.o.item l.o.1 l.o.2.1 (fV l.o.2.2) xt.o;have yq:=(yl.o.row l.o.2.1 (fun b hb=>by have:=(f.o.items.1.lt b hb).1;have:=f.o.lo;omega)).kept (aV W8 nb 5 (.slice (some ⟨g8,0,none⟩) (A.length+1) c8)) (by have:=f.o.lo;omega)
     go_roundw
     case rel=>
      refine ⟨_,_,_,A++[((Nc x G H c1 F I c2),x)],r',?_,⟨yq,xd,?_,?_⟩,?_,?_⟩
      ·rw [Lg];rfl
      ·intro y E
       rcases Bg.1 E with E | E
       ·exact HI.o.fine y E
       ·cases At.1 E;exact R.o.1
      ·rw [Lg];show A.length+1+r'.length≤r1.length;omega
      ·rw [show aG (A++[((Nc x G H c1 F I c2),x)])=aG A++[x] by simp [aG]];exact R.o.2.2
      ·rw [Lg];show _≤A.length+1;omega
     case measure=>simp [intOf];omega
  ·have yi:¬ (A.length:Int)<(n:Int):=by omega
   have J:=HI.o.st;have z0:Hid (∀y t,MIr (d+1) r y t→(.mk k false 0 ⟨#[]⟩ ns (aG A))=y∧rr=t):=Hh fun y t E=>by
    have uk:A.length≤n∨n<A.length:=by omega
    by_cases he:(aG A).length=n
    ·exact x6.done he y t E
    ·obtain ⟨-,h2,its,ud,h3,-⟩:=x6 y t E
     exfalso
     rw [h3,Lg,X] at h2;omega
   obtain ⟨ai,ci,rfl⟩:=J.viForm;obtain ⟨an,ya,rfl⟩:=J.vnForm;have f0:=aE J.nod;have c0:=aA J.nod;have f1:=aE J.res;have c1:=aA J.res;have z3:¬w.heap.size=nb:=by have:=J.lo;omega
   have ua:¬nb=w.heap.size:=fun e=>z3 e.symm
   have xk:=Hh J;have zz:=Hh HI.o.par;clear J hI x6 X;generalize y5:ns.length=NL at c0 ye;have z5:=Hh y5;generalize y8:A.length=AL at c0 ye xg Y yi ⊢;have zl:=Hh y8;clear y5 y8
   go_wp2
   have yr:=xk.o.done;have yg:=dG xk.o.res (Iz k) (.bool false) (Iz 0) (.string ⟨#[]⟩) (.slice an ns.length ya) (.slice ai A.length ci);rw [z5.o,zl.o] at yr yg;refine Au (v:=.tuple #[.agg #[Iz k,.bool false,Iz 0,.string ⟨#[]⟩,.slice an NL ya,.slice ai AL ci],.bool true]) ?_ ?_ ?_;rotate_left
   ·rfl
   ·have zx:=aO wr w.heap.size (Iz k) (.bool false) (Iz 0) (.string ⟨#[]⟩) (.slice an NL ya) (.slice ai AL ci)
    have uj:(aG A).length=AL:=by rw [←zl.o];simp [aG]
    refine ⟨[Iz k,.bool false,Iz 0,.string ⟨#[]⟩,.slice an NL ya,.slice ai AL ci],.mk k false 0 ⟨#[]⟩ ns (aG A),true,rr,rfl,yr.1,zz.o.kept zx xo,yr.2.1,by omega,(fun _=>by omega),⟨⟨?_,?_⟩,?_⟩,?_⟩
    ·show (aG A).length≤1000000;omega
    ·intro y E
     obtain ⟨z,hz,rfl⟩:=Bp.1 (show y ∈ aG A from E)
     exact (HI.o.fine z hz).1
    ·rw [cS,An,Ax]
     refine ⟨show dD 0=true by decide,fun y E=>?_⟩
     obtain ⟨z,hz,rfl⟩:=Bp.1 (show y ∈ aG A from E)
     exact (HI.o.fine z hz).2
    ·intro y t E
     exact ⟨rfl,z0.o y t E⟩
   ·obtain ⟨q0,q1,q2,q3,q4,q5⟩:=aA yg
    simp only [dJ] at q0 q1 q2 q3 q4 q5;simp [results,results178,go_sem,q0,q1,q2,q3,q4,q5]
theorem jY {V:ND→Ub→Prop} {d g l:Nat} {r c:Ub} {w f:World} (k:Int) (b:Bool) (z:Int) (t:Bt) (e:Bool) (u:PrM l f g c) (n:w.grownBy f (some g)) (i:g<w.heap.size) (o:c.length≤r.length) (h:e=true→c.length<r.length) (s:t.size≤maxLen - 2) (m:dD z=true)
 (p:∀y j,V y j→e=true∧(.mk k b z t [] [])=y∧c=j) :
 JO V d g l r w (.returned (.tuple #[.agg #[Iz k,.bool b,Iz z,.string t,Sn,Sn],.bool e])) (dJ f w.heap.size (Iz k) (.bool b) (Iz z) (.string t) (Sn) (Sn)):=by
 have a:=aO f w.heap.size (Iz k) (.bool b) (Iz z) (.string t) (Sn) (Sn);exact ⟨[Iz k,.bool b,Iz z,.string t,Sn,Sn],_,e,c,rfl,(cJ _ _ k b z t s).deeper (by omega),u.kept a i,gO n a (Lr _),o,h,⟨⟨by simp [ND.items],fun y q=>by simp [ND.items] at q⟩,by unfold aP;show (dD z && _)=true;rw [m];rfl⟩,p⟩
theorem YB {V:ND→Ub→Prop} {d g p:Nat} {r:Ub} {w q c:World} {x:ND} {l:Bool} {f:Ub} {i k:Option Addr} {j c1 h c2:Nat}
 (u:aD (d+1) (fun b=>q.heap.size≤b∧b<c.heap.size) c (Nc x i j c1 k h c2) x) (C:w.heap.size<q.heap.size) (z:PrM p c g f) (v:w.grownBy c (some g)) (n:g<w.heap.size) (A:f.length≤r.length) (m:l=true→f.length<r.length) (B:iM (d+1) x∧aP (d+1) x=true) (s:∀y t,V y t→l=true∧x=y∧f=t) :
 JO V d g p r w (.returned (.tuple #[.agg (Na x i j c1 k h c2),.bool l])) (dJ c w.heap.size (Iz x.kind) (.bool x.bool) (Iz x.num) (.string x.text) (.slice i j c1) (.slice k h c2)):=by
 have a:=aO c w.heap.size (Iz x.kind) (.bool x.bool) (Iz x.num) (.string x.text) (.slice i j c1) (.slice k h c2);refine ⟨(Nc x i j c1 k h c2),x,l,f,rfl,?_,z.kept a n,gO v a (Lr _),A,m,B,s⟩;exact (u.same fun b o=>a.block b o.2 (by intro e;have:=Ab e;omega)).mono fun b o=>⟨by omega,Ll o.2 a.size⟩
theorem MB:pW 0:=by
 intro g G r w h O;have q:=h.lt;have j:=(Br w.heap.size w).alloc (o:=.cells Z6 28) (Lr _);have s:=h.below j;have c:=Hn w (.cells Z6 28);have d:=dV w (.cells Z6 28) (some g);have f:w.heap.size<(w.alloc (.cells Z6 28)).heap.size:=by simp
 have A:=Hh (fun (B:World) (M:PrM G B g r)=>EY B M (by omega))
 clear h j
 go_enter func150,ntmps150
 go_upto_region 1 with fail
 generalize w.alloc _=P at s c d f ⊢
 go_upto_region 2 with ((with_reducible refine (A.o _ s).mono ?_);rintro e H ⟨k,z,K,E,rfl,p,a,m,l,i,b,D⟩)
 have n:=cP a (by omega) c
 have u:=Hh n;have x:=Hh (Ai p (aJ d a));have I:w.heap.size<H.heap.size:=Ll f a.size;have Q:=Hh D;have HL:=Hh (Ai i b);have J:=Hh l;have L:=Hh m;have C:E.length≤100000:=by omega
 clear n c p a d s f A D i b l m;have N:=aE u.o;have R:=aA u.o;cases K
 all_goals
  go_wp2
  refine aT (v:=.bool false) u.o results150 rfl rfl rfl ?_;exact jY 0 false 0 ⟨#[]⟩ false x.o.1 x.o.2 q HL.o.1 (fun h=>by cases h) (by decide) (by decide) (fun y t F=>by have:=F.1;cases this)
theorem MC (d:Nat) (Q:d≤20) (PN:pW d):pW (d+1):=by
 intro g mb r w h hr;rw [show ((d+1:Nat):Int)=(d:Int)+1 by omega]
 have x5:(0:Int)≤(d:Int):=by omega
 have xw:(d:Int)≤20:=by omega
 have xz:¬ (d:Int)+1<1:=by omega
 have IT:=Hh (fun (k:Int) (hk:k=4∨k=5) (n:Nat) (hn:n<4294967296) (j:Ub) (m:World) (U:PrM mb m g j) (h1:j.length≤100000) (hL:MLr d k n r [] [] j)=>MD d Q PN k hk n hn m U h1 hL)
 clear PN Q;have D:=h.lt;have xh:=(Br w.heap.size w).alloc (o:=.cells Z6 28) (Lr _);have h0:=h.below xh;have W:=Hn w (.cells Z6 28);have xa:=dV w (.cells Z6 28) (some g);have q:w.heap.size<(w.alloc (.cells Z6 28)).heap.size:=by simp
 have HD:=Hh (fun (m:World) (U:PrM mb m g r)=>EY m U (by omega))
 clear h xh
 go_enter func150,ntmps150
 go_upto_region 1 with fail
 generalize w.alloc _=w0 at h0 W xa q ⊢
 go_upto_region 2 with ((with_reducible refine (HD.o _ h0).mono ?_);rintro e w1 ⟨k,z,ok,j,rfl,xd,M,xj,i,E,l,hI⟩)
 have xk:=cP M (by omega) W
 have P:=Hh xk;have F:=Hh (Ai xd (aJ xa M));have xu:w.heap.size<w1.heap.size:=Ll q M.size;have HI:=Hh hI;have HL:=Hh (Ai E l);have xq:=Hh i;have xr:=Hh xj;have xv:j.length≤100000:=by omega
 clear xk W xd M xa h0 q HD hI E l i xj;have f2:=aE P.o;have J:=aA P.o;cases ok with
 | false=>
  go_wp2
  refine aT (v:=.bool false) P.o results150 rfl rfl rfl ?_;exact jY 0 false 0 ⟨#[]⟩ false F.o.1 F.o.2 D HL.o.1 (fun h=>by cases h) (by decide) (by decide) (fun y t hV=>by have:=(vD HI.o hV).1;cases this)
 | true=>
  have E:=HL.o.1;have l:=HL.o.2 rfl;obtain ⟨T,X,i⟩:=xq.o rfl
  by_cases h2:k=2
  ·have L:Hid (∀y t,MIr (d+1) r y t→(.mk 2 false z ⟨#[]⟩ [] [])=y∧j=t):=Hh fun y t f=>by
    obtain ⟨-,e1,J,s⟩:=vD HI.o f;rcases vE f.1 f.2.1 with ⟨c1,c2⟩ | ⟨c1,c2⟩ | ⟨c1,cw,c2,c3⟩ | ⟨c1,cw,c2,c3⟩ | ⟨c1,-⟩ | ⟨c1,-⟩
    ·omega
    ·omega
    ·refine ⟨by rw [J,c2];exact c3.symm,?_⟩
     rw [s];unfold lA;rw [c1];rfl
    all_goals omega
   subst h2;have NN:=Hh (fun m=>tI z m)
   go_wp2_with (go_at_call 171;(with_reducible refine (NN.o _).mono ?_);rintro e w3 ⟨rfl,c⟩;(have a:=(c.block _ (Aa P.o)).trans P.o);(have f3:=aE a);(have s:=aA a);(have u:=Hh a);(have p:=Hh (Ai (F.o.1.below c) (aJ F.o.2 (aK c (Lr _) _))));clear a f2 J)
   refine aT (v:=.bool true) u.o results150 rfl rfl rfl ?_;exact jY 2 false z ⟨#[]⟩ true p.o.1 p.o.2 D E (fun _=>l) (by decide) xr.o (fun y t f=>⟨rfl,L.o y t f⟩)
  by_cases h3:k=3
  ·subst h3
   obtain ⟨q,O⟩:=i (by omega)
   obtain ⟨n,rfl⟩:∃n:Nat,z=(n:Int):=⟨z.toNat,by omega⟩
   by_cases hq:n≤j.length
   ·have TK:=Hh (fun (m:World) (U:PrM mb m g j)=>vC n m U (by omega) hq)
    have xm:(bC (j.take n)).size≤100000:=by rw [bY,Bc];omega
    have L:Hid (∀y t,MIr (d+1) r y t→(.mk 3 false 0 (bC (j.take n)) [] [])=y∧j.drop n=t):=Hh fun y t f=>by
     obtain ⟨-,e1,J,s⟩:=vD HI.o f;rcases vE f.1 f.2.1 with ⟨c1,c2⟩ | ⟨c1,c2⟩ | ⟨c1,cw,c2,c3⟩ | ⟨c1,cw,c2,c3⟩ | ⟨c1,-⟩ | ⟨c1,-⟩
     ·omega
     ·omega
     ·omega
     ·have S:lA (aW d) y=y.text.data.toList:=by unfold lA;rw [c1];rfl
      have Y:y.text.data.toList.length=n:=by rw [Ah];show y.text.size=n;omega
      rw [S] at s;refine ⟨?_,by rw [s,List.drop_left' Y]⟩
      rw [s,List.take_left' Y,pS];exact c3.symm
     all_goals omega
    have xt:(j.drop n).length≤j.length:=by rw [Ce];omega
    obtain ⟨sx,R⟩:∃sx,sx=bC (j.take n):=⟨_,rfl⟩;obtain ⟨rx,Z⟩:∃rx,rx=j.drop n:=⟨_,rfl⟩;rw [←R,←Z] at TK L;rw [←R] at xm;rw [←Z] at xt;clear R Z hq f2 J i h2 T X q O;have NT:=Hh (fun m=>gN sx m)
    go_upto_region 9 with ((with_reducible refine (TK.o _ F.o.1).mono ?_);rintro e w2 ⟨rfl,H,A⟩)
    have G:=cP A (by omega) P.o
    have K:=Hh G;have I:=Hh (Ai H (aJ F.o.2 A));clear G H A
    go_wp2_with (go_at_call 50;(with_reducible refine (NT.o _).mono ?_);rintro e w3 ⟨rfl,c⟩;(have a:=(c.block _ (Aa K.o)).trans K.o);(have f3:=aE a);(have s:=aA a);(have u:=Hh a);(have p:=Hh (Ai (I.o.1.below c) (aJ I.o.2 (aK c (Lr _) _))));clear a)
    refine aT (v:=.bool true) u.o results150 rfl rfl rfl ?_;exact jY 3 false 0 sx true p.o.1 p.o.2 D (by omega) (fun _=>by omega) (by unfold maxLen;omega) (by decide) (fun y t f=>⟨rfl,L.o y t f⟩)
   ·have TK:=Hh (fun (m:World) (U:PrM mb m g j)=>AP n m U (by omega) hq)
    have L:Hid (∀y t,¬MIr (d+1) r y t):=Hh fun y t f=>by
     obtain ⟨-,e1,J,s⟩:=vD HI.o f;rcases vE f.1 f.2.1 with ⟨c1,c2⟩ | ⟨c1,c2⟩ | ⟨c1,cw,c2,c3⟩ | ⟨c1,cw,c2,c3⟩ | ⟨c1,-⟩ | ⟨c1,-⟩
     ·omega
     ·omega
     ·omega
     ·have S:lA (aW d) y=y.text.data.toList:=by unfold lA;rw [c1];rfl
      have Y:y.text.data.toList.length=n:=by rw [Ah];show y.text.size=n;omega
      rw [S] at s;have:=Ad List.length s;rw [Lg] at this;omega
     all_goals omega
    clear hq f2 J i h2 T X q O;have NT:=Hh (fun m=>gN ⟨#[]⟩ m)
    go_upto_region 9 with ((with_reducible refine (TK.o _ F.o.1).mono ?_);rintro e w2 ⟨rfl,H,A⟩)
    have G:=cP A (by omega) P.o
    have K:=Hh G;have I:=Hh (Ai H (aJ F.o.2 A));clear G H A
    go_wp2_with (go_at_call 50;(with_reducible refine (NT.o _).mono ?_);rintro e w3 ⟨rfl,c⟩;(have a:=(c.block _ (Aa K.o)).trans K.o);(have f3:=aE a);(have s:=aA a);(have u:=Hh a);(have p:=Hh (Ai (I.o.1.below c) (aJ I.o.2 (aK c (Lr _) _))));clear a)
    refine aT (v:=.bool false) u.o results150 rfl rfl rfl ?_;exact jY 3 false 0 ⟨#[]⟩ false p.o.1 p.o.2 D E (fun h=>by cases h) (by decide) (by decide) (fun y t f=>absurd f (L.o y t))
  by_cases N:k=4∨k=5
  ·obtain ⟨q,O⟩:=i (by omega)
   obtain ⟨n,rfl⟩:∃n:Nat,z=(n:Int):=⟨z.toNat,by omega⟩
   have xl:=Hh (MLr.start (d:=d) HI.o N);have xs:=Hh (IT.o k N n (by omega) j w1 F.o.1 (by omega) xl.o)
   have xg:(k == 2)=false:=by simp;omega
   have c:(k == 3)=false:=by simp;omega
   rcases N with rfl | rfl
   all_goals
    clear i h2 h3 T X q O xg c f2 J
    go_wp2_with (go_at_call 178;(with_reducible refine (xs.o).mono ?_);rintro e w3 ⟨cs,x,ok,r',rfl,B,xf,V,xb,xe,xc,xi⟩;go_loud ((obtain ⟨a1,l1,c1,a2,l2,c2,xo⟩:=B.slices);subst xo;(have a:=cP V (by omega) P.o);(have f3:=aE a);(have s:=aA a);(have u:=Hh a);(have C:=Hh (Ai B (Ai xf (Ai (aJ F.o.2 V) (Ai xb (Ai xc xi))))));clear a B xf V xb xe xc xi))
    refine aT (v:=.bool ok) u.o results150 rfl rfl rfl ?_;exact YB C.o.1 xu C.o.2.1 C.o.2.2.1 D (by have:=C.o.2.2.2.1;omega) (fun h=>by have:=C.o.2.2.2.1;omega) C.o.2.2.2.2.1 C.o.2.2.2.2.2
  have xn:k=0∨k=1:=by omega
  have L:Hid (∀y t,MIr (d+1) r y t→(.mk k (z == 1) 0 ⟨#[]⟩ [] [])=y∧j=t):=Hh fun y t f=>by
   obtain ⟨-,e1,J,s⟩:=vD HI.o f;rcases vE f.1 f.2.1 with ⟨c1,c2⟩ | ⟨c1,c2⟩ | ⟨c1,-⟩ | ⟨c1,-⟩ | ⟨c1,-⟩ | ⟨c1,-⟩
   ·have xp:iC y=0:=by unfold iC;rw [c1];rfl
    rw [e1,J,c1,xp,s];refine ⟨c2.symm,?_⟩;unfold lA;rw [c1];rfl
   ·rw [e1,J,c1,s]
    refine ⟨?_,by unfold lA;rw [c1];rfl⟩
    rw [show (iC y == 1)=decide (iC y=1) from rfl]
    exact c2.symm
   all_goals omega
  have xg:(k == 2)=false:=by simp;omega
  have c:(k == 3)=false:=by simp;omega
  have xx:(k == 4)=false:=by simp;omega
  have xy:(k == 5)=false:=by simp;omega
  obtain ⟨b,hb⟩:∃b,(z == 1)=b:=⟨_,rfl⟩;rw [hb] at L;clear h2 h3 N xn i
  go_wp2
  refine aT (v:=.bool true) P.o results150 rfl rfl rfl ?_;exact jY k b 0 ⟨#[]⟩ true F.o.1 F.o.2 D E (fun _=>l) (by decide) (by decide) (fun y t f=>⟨rfl,L.o y t f⟩)
theorem AQ:∀d,d≤21→pW d
 | 0,_=>MB
 | d+1,h=>MC d (by omega) (AQ d (by omega))
end Go.Proofs.YtncdpanfefnjlaaGreatDoor