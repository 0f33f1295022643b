import Derived.Test.YtncdpanfefnjlaaGreatDoorCwt
import Derived.Test.YtncdpanfefnjlaaGreatDoorNget
import Derived.Test.YtncdpanfefnjlaaGreatDoorMhe
set_option linter.unusedVariables false
set_option linter.unusedSimpArgs false
set_option maxHeartbeats 6400000
set_option maxRecDepth 100000
namespace Go.Proofs.YtncdpanfefnjlaaGreatDoor
open Go.Proofs.Tryz
open Go Go.ChangeShapes Go.WideShapes Go.ChangeAt Go.RowKit Go.Shelf
attribute [local go_sem] Oper.semAt_some
theorem oI {F:Fence} (b:F.depth=none) {m:Nat} (i:Nat) {P:Program} {l:Nat} {args:Array Value} {W:World} {R:Ending→World→Prop} (h:YieldAt F m P l args W R):YieldAt F i P l args W R:=by
 obtain ⟨j,tmps,assign,body,f,a,e⟩:=h;exact ⟨j,tmps,assign,body,f,a,fun c g _=>e c g (fun d h=>by rw [b] at h;cases h)⟩
theorem aGq:(28:TypeId) ≠ 5:=by decide
structure JE (w0:World) (g l N:Nat) (J Jx:List Bt→World→Prop):Prop where
 alloc:∀pre W W',J pre W→W.grownBy W' none→J pre W'
 room:g<w0.heap.size
 round:∀pre (x:Bt) W,x.size≤131072→J pre W→pre.length<N→YieldAt Fence.wide 10 prog l #[.string x] W fun e W'=>(e=.returned (.bool true)∧J (pre++[x]) W'∧KpW 5 g W W')∨(e=.returned (.bool false)∧Jx (pre++[x]) W')
def aKi (g:Nat) (T a:List Bt) (J c:List Bt→World→Prop) (W:World) (e:Ending) (b:World):Prop:=(e=.returned (.bool true)∧J (a++T) b∧KpW 5 g W b)∨(e=.returned (.bool false)∧∃q,q <+: T∧c (a++q) b)
def aKj (b:World) (B g l N:Nat) (S:Nat→Prop) (J e:List Bt→World→Prop) (d:Nat):Prop:=∀ (D:Nat) (c:Vl) (x:ND) (n:Nat) (a:List Bt) (W:World),aD D S b c x→aC d x=true→aP d x=true→Below g b W→g<W.heap.size→J a W→a.length+(pcs d x).length≤N →
 CallsIn Fence.wide n prog 175 #[.agg c.toArray,.func (.yield l) #[] #[]] W (aKi g (pcs d x) a J e W)
theorem aGg {X:World} {B g l N:Nat} {S:Nat→Prop} {J Jx:List Bt→World→Prop} (hS:∀b,S b→b<g) (hT:xW B X) (y6:B≤g) (R:JE X g l N J Jx) {d:Nat} (IH:aKj X B g l N S J Jx d):aKj X B g l N S J Jx (d+1):=by
 intro D cs x n a W h hv hn hW H hJ hN;obtain ⟨a1,l1,c1,a2,l2,c2,rfl⟩:=h.slices;cases D with
 | zero=>exact h.elim
 | succ D=>
 have yg:aD (D+1) S W (Nc x a1 l1 c1 a2 l2 c2) x:=h.same fun b G=>hW.block b (hS b G)
 have HD:=Hh (fun (P:World) (G:Below W.heap.size W P)=>MG (B:=B) _ x P (yg.same fun b xf=>G.block b (Cm (hS b xf) H)) (fun b xf=>Ll (Cm (hS b xf) H) G.size) hv hn ((hT.below (hW.mono y6)).below (G.mono (by omega))))
 have bA:=(Br W.heap.size W).alloc (o:=.cells (Na x a1 l1 c1 a2 l2 c2) 28) (Lr _);have kA:=Hn W (.cells (Na x a1 l1 c1 a2 l2 c2) 28);have k:=R.alloc a _ _ hJ (World.grownBy_alloc W (.cells (Na x a1 l1 c1 a2 l2 c2) 28) none);obtain ⟨p,hp⟩:∃p,p=W.heap.size:=⟨_,rfl⟩;have yn:p ≠ g:=by omega
 rw [←hp] at kA;obtain ⟨hd,Y⟩:∃t,t=bC (cH (pHd x) (lD x)):=⟨_,rfl⟩;rw [←Y] at HD;have yy:2≤(pcs (d+1) x).length:=by rw [mV];simp
 have y9:hd.size≤131072:=by rw [Y,bY];unfold cH;rw [Ag,aQ];have:=aBy x;omega
 have y1:x.text.size≤131072:=by have:=dY (aX hv).2.2.1;omega
 have HX:=Hh (Ai h (Ai hv hn));have HW:=Hh hW;have HH:=Hh Y;have HN:=Hh hN;clear h hv hn hW Y yg;refine callsIn_of_wp func175 rfl trivial ?_ rfl;simp only [ntmps175,Eb,Ag,Bz,Nat.reduceAdd,Nat.reduceSub,Array.replicate_succ,Array.replicate_zero,List.push_toArray,List.append_toArray,Ds,Bo]
 gi_wp2
 rw [←hp];have yo:=Hh yn;have xc:Hid (g<(W.alloc (.cells (Na x a1 l1 c1 a2 l2 c2) 28)).heap.size):=Hh (Ll H bA.size);have xm:=Hh (HD.o _ bA);have BA:=Hh bA;clear hp bA HD;generalize W.alloc _=wa at kA k xc xm BA ⊢;refine ⟨trivial,fun h=>(by cases h),(callsIn_wide.2 xm.out).mono ?_⟩
 rintro e w3 ⟨rfl,M⟩;have yi:=R.alloc a _ _ k (aK M (Lr _) none);have k3:=(M.block _ (Aa kA)).trans kA;have yx:g<w3.heap.size:=Ll xc.o M.size;have ym:KpW 5 g W w3:=KpW.below (BA.o.trans (M.mono BA.o.size)) (Bw H);obtain ⟨fn,tmps,assign,body,hy,hR⟩:=oI rfl (n - 1) (R.round a hd w3 y9 yi (by omega))
 have HR:=Hh hR;have K3:=Hh k3;have zb:=Hh ym;have q3:=aA k3;clear yi k3 ym hR xm BA xc M k kA yx
 gi_wp2
 refine ⟨fun h=>(by cases h),HR.o.mono ?_⟩
 rintro e W4 (⟨rfl,xy,xo⟩ | ⟨rfl,ya⟩);rotate_left
 ·have yt:=Hh ya
  clear ya HR hy q3
  gi_wp2
  refine ⟨fun _ h=>(by cases h),?_⟩
  gi_wp2
  go_ret
  exact .inr ⟨rfl,[hd],⟨_,by rw [mV,HH.o];rfl⟩,yt.o⟩
 have k4:=xo.2 _ _ _ _ yo.o aGq K3.o;have q4:=aA k4;have yw:=Hh (zb.o.trans xo);obtain ⟨zm,yp,yh,yq,x9,yc⟩:=oI rfl (n - 1) (R.round (a++[hd]) x.text W4 y1 xy (by rw [Lg];simp;omega))
 have xs:=Hh yc;have K4:=Hh k4;clear xy xo yc HR hy q3 k4
 gi_wp2
 refine ⟨fun h=>(by cases h),xs.o.mono ?_⟩
 rintro e W5 (⟨rfl,xz,c⟩ | ⟨rfl,ye⟩);rotate_left
 ·have zd:=Hh ye
  clear ye xs x9 q4
  gi_wp2
  go_ret
  exact .inr ⟨rfl,[hd,x.text],⟨_,by rw [mV,HH.o];rfl⟩,by have:=zd.o;rw [Aj] at this;exact this⟩
 have K5:=Hh (c.2 _ _ _ _ yo.o aGq K4.o);have xn:=Hh (yw.o.trans c);have q5:=aA K5.o;obtain ⟨yz,hv,hn⟩:=HX.o;obtain ⟨vn,vi,e,-,xb,xt⟩:=yz;simp only [Bu,Dd,Dj] at e;obtain ⟨rfl,rfl⟩:=e;obtain ⟨hi,hl,-,z⟩:=aX hv;obtain ⟨-,yd⟩:=cG hn;have r:=XV hv;have yb:=aIf (V:=pcs d) r;obtain ⟨ai,ci,ei,-,-,-⟩:=id xt;have yv:l2=x.items.length:=by cases ei;rfl
 subst yv;clear ei;have HI:=Hh xt;have HS:=Hh hS;have HV:=Hh (Ai hi yd);have zh:=Hh (Ai xb (Ai z r));have zf:=Hh yb;have HR:=Hh R;have xh:=Hh IH;have HT:=Hh hT;have HL:=Hh hN;have H5:Hid (J (a++iJ d x 0) W5):=Hh (by rw [WI,←HH.o];have:=xz;rw [Aj] at this;exact this)
 clear hv hn hi z yd r yb xt xb hS R IH hT hN xz c xs x9 q4 hJ yy
 gi_wp2
 gi_loopw [22] (fun i wr=>∃ (j:Nat),j≤x.items.length∧i=Iz (j:Int)∧J (a++iJ d x j) wr∧KpW 5 g W5 wr) (fun i _=>x.items.length - (intOf i).toNat)
 case atStart=>exact ⟨0,Av _,rfl,H5.o,KpW.refl _ _ _⟩
 case round=>
  obtain ⟨j,hj,rfl,I,m⟩:=hrel;have kr:=m.2 _ _ _ _ yn aGq K5.o;have xu:Below g X wr:=HW.o.trans (xn.o.1.trans m.1);have yk:g<wr.heap.size:=Ll H (Af xn.o.1.size m.1.size)
  by_cases ys:j<x.items.length
  ·have zl:(j:Int)<(x.items.length:Int):=by omega
   have zp:(0:Int)≤(j:Int):=by omega
   obtain ⟨-,-,-,b,xr,y,a3,l3,c3,a4,l4,c4,rfl,ze,hx,A,m0,m1,m2,m3,m4,m5⟩:=HI.o.at ys;have za:=HS.o b ze;have cc:∀q v,X.cell? ⟨b,xr+j * 6+q,none⟩=some v→wr.cell? ⟨b,xr+j * 6+q,none⟩=some v:=fun q v Q=>(xu.cell (p:=⟨b,xr+j * 6+q,none⟩) za).trans Q
   have e0:=cc 0 _ m0;have e1:=cc 1 _ m1;have e2:=cc 2 _ m2;have e3:=cc 3 _ m3;have e4:=cc 4 _ m4;have e5:=cc 5 _ m5;rw [Nat.add_zero] at e0;have w:=Ao hx;have bA:=(Br wr.heap.size wr).alloc (o:=.cells (Na y a3 l3 c3 a4 l4 c4) 28) (Lr _);have kY:=Hn wr (.cells (Na y a3 l3 c3 a4 l4 c4) 28);have k:=HR.o.alloc _ _ _ I (World.grownBy_alloc wr (.cells (Na y a3 l3 c3 a4 l4 c4) 28) none);have xl:KpW 5 g wr (wr.alloc (.cells (Na y a3 l3 c3 a4 l4 c4) 28)):=KpW.below bA (Bw yk);have kX:=(bA.block _ (Aa kr)).trans kr;have qX:=aA kX;have zo:=Hh kX;have yu:=Hh kY;have x6:=Hh xl;have U:=Hh m;have f:Hid (Below g X (wr.alloc (.cells (Na y a3 l3 c3 a4 l4 c4) 28))∧g<(wr.alloc (.cells (Na y a3 l3 c3 a4 l4 c4) 28)).heap.size):=Hh ⟨xu.trans xl.1,Ll yk bA.size⟩;have y5:Hid (wr.heap.size ≠ g):=Hh (by omega)
   clear m0 m1 m2 m3 m4 m5 cc I m xl kX kr bA xu
   by_cases c:x.kind=5
   ·obtain ⟨xb,z,r⟩:=zh.o
    have r:=r c;obtain ⟨an,cn,en,y7,y3,xw⟩:=xb;have y8:l1=x.names.length∧a1=an:=by cases en;exact ⟨rfl,rfl⟩
    obtain ⟨rfl,rfl⟩:=y8;clear en;obtain ⟨Z,xa⟩:∃s,x.names[j]?=some s:=⟨_,Ac (by omega)⟩
    obtain ⟨bn,on,yr,x5,yj,xx⟩:=xw j Z xa;subst yr;have zj:(j:Int)<(x.names.length:Int):=by omega
    have zk:=(f.o.1.cell (p:=⟨bn,on+j,none⟩) (HS.o bn x5)).trans yj;have xp:=HV.o.1 y w;have hc:=aIe (V:=pcs d) c hx xa;obtain ⟨C,rfl⟩:∃C,d=C+1:=by
     cases d with
     | zero=>cases xp
     | succ d=>exact ⟨d,rfl⟩
    have hD1:1≤D:=by
     cases D with
     | zero=>exact A.elim
     | succ D=>omega
    have xe:=aJl (d:=C) (z Z (Ao xa));have u:(a++iJ (C+1) x j).length+((GJ Z).length+(pcs (C+1) y).length)≤N:=by
     have h1:=(zC (C+1) x (j+1)).length_le;rw [mT hc,Lg,Lg] at h1;have h0:=HN.o;rw [Lg];omega
    have xj:=Hh (fun (P:World) (G:Below (wr.alloc (.cells (Na y a3 l3 c3 a4 l4 c4) 28)).heap.size (wr.alloc (.cells (Na y a3 l3 c3 a4 l4 c4) 28)) P)=>xh.o D [Iz 3,.bool false,Iz 0,.string Z,Sn,Sn] (txM Z) (n - 1) (a++iJ (C+1) x j) P ((cJ S X 3 false 0 Z xx).deeper hD1) xe.1 xe.2 (f.o.1.trans (G.mono (Bw f.o.2))) (Ll f.o.2 G.size) (HR.o.alloc _ _ _ k (aK G (Lr _) none)) (by rw [UL];omega))
    rw [UL] at xj;have xk:=Hh (fun (P:World) (G:Below g X P) (y4:g<P.heap.size) (zi:J (a++iJ (C+1) x j++GJ Z) P)=>xh.o D _ y (n - 1) _ P A xp (HV.o.2 y w) G y4 zi (by rw [Lg];omega))
    have HC:=Hh hc;have qY:=aA kY;have yf:(x.kind == 5)=true:=by simpa using c
    clear c hc u k A hx w kY q5 xp yj xx xa xe y7 y3 xw z r
    gi_wp2
    refine ⟨trivial,fun h=>(by cases h),(callsIn_wide.2 (gN Z _)).mono ?_⟩
    rintro e w7 ⟨rfl,T⟩;have xg:=Hh (xj.o _ T);have y0:=Hh (KpW.below (TB:=5) T (Bw f.o.2));have zn:=Hh T.size;clear T xj
    gi_wp2
    refine ⟨trivial,fun h=>(by cases h),xg.o.mono ?_⟩
    rintro e W8 (⟨rfl,yl,x8⟩ | ⟨rfl,q,Q,x7⟩)
    ·have F:=y0.o.trans x8
     have q8:=aA (F.2 _ _ _ _ y5.o aGq yu.o);have K:=Hh (xk.o W8 (f.o.1.trans F.1) (Ll f.o.2 F.1.size) yl);have zg:=Hh F;clear yl x8 F xg xk qX qY
     gi_wp2
     refine ⟨trivial,fun h=>(by cases h),K.out.mono ?_⟩
     rintro e W6 (⟨rfl,E,O⟩ | ⟨rfl,q,Q,L⟩)
     ·have xq:Hid (J (a++iJ (C+1) x (j+1)) W6):=Hh (by rw [mT HC.o,←Aj,←Aj];exact E)
      have xv:=Hh O;clear E O K q8
      gi_wp2
      go_roundw
      case rel=>exact ⟨j+1,by omega,by go_num,xq.o,U.o.trans (x6.o.trans (zg.o.trans xv.o))⟩
      case measure=>simp [intOf] <;> omega
     ·have xi:=Hh L
      have HQ:=Hh Q;clear L Q K q8
      gi_wp2
      go_ret
      exact .inr ⟨rfl,iJ (C+1) x j++(GJ Z++q),uS HC.o ((List.prefix_append_right_inj _).2 HQ.o),by rw [←Aj,←Aj];exact xi.o⟩
    ·have zc:=Hh x7
     have HQ:=Hh Q;clear x7 Q xg xk qX qY
     gi_wp2
     go_ret
     exact .inr ⟨rfl,iJ (C+1) x j++q,uS HC.o (HQ.o.trans (List.prefix_append _ _)),by rw [←Aj];exact zc.o⟩
   ·have yf:(x.kind == 5)=false:=by simpa using c
    have hc:=aEu (V:=pcs d) c hx;have u:(a++iJ d x j).length+(pcs d y).length≤N:=by
     have h1:=(zC d x (j+1)).length_le;rw [mT hc,Lg] at h1;have h0:=HN.o;rw [Lg];omega
    have xd:=Hh (xh.o D _ y (n - 1) _ _ A (HV.o.1 y w) (HV.o.2 y w) f.o.1 f.o.2 k u);have HC:=Hh hc;have qY:=aA kY;clear hc u k A hx w kY q5
    gi_wp2
    refine ⟨trivial,?_⟩
    gi_wp2
    refine ⟨trivial,?_⟩
    gi_wp2
    refine ⟨trivial,fun h=>(by cases h),xd.out.mono ?_⟩
    rintro e W6 (⟨rfl,E,O⟩ | ⟨rfl,q,Q,L⟩)
    ·have xq:Hid (J (a++iJ d x (j+1)) W6):=Hh (by rw [mT HC.o,←Aj];exact E)
     have xv:=Hh O;clear E O xd qY qX
     gi_wp2
     go_roundw
     case rel=>exact ⟨j+1,by omega,by go_num,xq.o,U.o.trans (x6.o.trans xv.o)⟩
     case measure=>simp [intOf] <;> omega
    ·have xi:=Hh L
     have HQ:=Hh Q;clear L Q xd qY qX
     gi_wp2
     go_ret
     exact .inr ⟨rfl,iJ d x j++q,uS HC.o HQ.o,by rw [←Aj];exact xi.o⟩
  ·have zq:¬ (j:Int)<(x.items.length:Int):=by omega
   have HU:Hid (iJ d x j=pcs (d+1) x):=Hh (aBc (by rw [zf.o];omega))
   rw [HU.o] at I;have y2:=Hh I;have U:=Hh m;clear I m
   gi_wp2
   go_ret
   exact .inl ⟨rfl,y2.o,xn.o.trans U.o⟩
theorem aAn {c:World} {B g l N:Nat} {S:Nat→Prop} {J i:List Bt→World→Prop} (f:∀b,S b→b<g) (e:xW B c) (a:B≤g) (R:JE c g l N J i):∀d,aKj c B g l N S J i d
 | 0=>fun D m x n k W h j=>by cases j
 | d+1=>aGg f e a R (aAn f e a R d)
abbrev PcS:={ s:Bt // s.size≤131072 }
def sT (l:List PcS):List Bt:=l.map fun s=>s.1
theorem uV (l:List PcS) (s:PcS):sT (l++[s])=sT l++[s.1]:=by simp [sT]
theorem CZ {D d B:Nat} {S:Nat→Prop} {x:ND} {A I:Option Addr} {H c1 z c2:Nat} (m:World) {g E:Nat} (P:∀b,S b→b<g)
 (c:m.heap[E]?=some (.cells (Na x A H c1 I z c2) 28 (0,0))) (h:aD D S m (Nc x A H c1 I z c2) x) (O:aC d x=true) (L:aP d x=true) (f:g<m.heap.size) (V:xW B m) (t:B≤g) (n:Nat) :
 SeqStopsK Fence.wide n prog 174 #[.pointer (some ⟨E,0,none⟩)] (fun s:PcS=>#[.string s.1]) (KpW 5 g) (fun a=>sT a=pcs d x) (fun i=>sT i <+: pcs d x) (pcs d x).length m:=fun l J Q W v G _ C F=>by
 have R:JE m g l (pcs d x).length (fun q W=>∃a,sT a=q∧J a W) (fun q W=>∃a,sT a=q∧Q a W):=⟨fun i W w j N=>by
  obtain ⟨a,e,j⟩:=j;exact ⟨a,e,G a W w none j N (fun r e=>by cases e)⟩,f,fun i y W Y j U=>by
  obtain ⟨a,rfl,j⟩:=j;refine oI rfl 10 ((C a ⟨y,Y⟩ W j (by simpa [sT] using U)).mono ?_)
  rintro e w (⟨rfl,p,K⟩ | ⟨rfl,p⟩)
  ·exact .inl ⟨rfl,⟨_,uV _ _,p⟩,K⟩
  ·exact .inr ⟨rfl,_,uV _ _,p⟩⟩
 have T:=Hh (aAn P V t R d D _ x (n - 1) [] W h O L (v.mono (Bw f)) (Ll f v.size) ⟨[],rfl,F⟩ (by simp))
 have q1:=aA ((v.block _ (Aa c)).trans c);clear R G C F c h;refine callsIn_of_wp func174 rfl trivial ?_ rfl;simp only [ntmps174,Eb,Ag,Bz,Nat.reduceAdd,Nat.reduceSub,Array.replicate_succ,Array.replicate_zero,List.push_toArray,List.append_toArray,Ds,Bo]
 gi_wp2
 refine ⟨trivial,fun h=>(by cases h),T.o.mono ?_⟩
 rintro e Z (⟨rfl,⟨a,k,u⟩,-⟩ | ⟨rfl,q,M,a,k,X⟩)
 ·gi_wp2
  go_end0
  exact ⟨⟨_,rfl⟩,.inl ⟨a,by simpa using k,u⟩⟩
 ·gi_wp2
  go_end0
  exact ⟨⟨_,rfl⟩,.inr ⟨a,by rw [k];simpa using M,X⟩⟩
theorem QP {d f:Option Addr} {k n:Int} {b:Bool} {t:Bt} {a c1 c c2:Nat} (w:World):Calls prog 149 #[.agg #[Iz k,.bool b,Iz n,.string t,.slice d a c1,.slice f c c2]] w fun e w'=>e=.returned (.func (.func 174) #[] #[.pointer (some ⟨w.heap.size,0,none⟩)])∧w'=w.alloc (.cells #[Iz k,.bool b,Iz n,.string t,.slice d a c1,.slice f c c2] 28):=by
 go_enter func149,ntmps149
 go_wp2
 go_ret
 exact ⟨rfl,rfl⟩
attribute [local go_sem] Oper.semAt_some
theorem qN {F:Fence} {n':Nat} {P:Program} {g:Array Oper} {rest:List Oper} {o:Oper} {a:Act} {Q:Exit→Act→World→Prop} (w:World) (r:o.guard=none) (z x:Operand) (t u:TypeId)
 (p:o.op=.call { callee:=.builtin .append,args:=#[z,x],argTypes:=#[t,u] })
 (base:Nat) (e:TypeId) (i:TypeInfo) (D:P.underlying t=some (.slice e)) (E:P.underlying u=some .string) (H:P.info? e=some i) (J:i.zero=some (.int .u8 0))
 (f:i.size=1) (m:i.bytes=1)
 (v:Value) (n:Nat) (l:Vl) (I:a.eval z=v) (j:w.ownsRow base e 1 v n l) (s:Bt) (L:a.eval x=.string s)
 (q:n+s.size≤maxLen) (b:n+s.size≤140737488355328) (d:base≤w.heap.size)
 (h:∀k w',w'.ownsRow base e 1 k (n+s.size) (l++Lib.strCells s)→w.grownBy w' v.ownBlock→wpListIn F n' P g Q rest (a.put o.dst k) w'):wpListIn F n' P g Q (o::rest) a w:=by
 refine wpListIn_plain r fun K G=>?_
 obtain ⟨k,w',B,A,C,M⟩:=Lib.run_append_own_string (P:=P) w base t u o.type e i D E H J f m v n l j s q b d;unfold Oper.wpIn;refine ⟨?_,?_⟩
 ·simp [Oper.about,p,resolve,Target.leads,Sem.run_pure]
 ·rw [Oper.semAt_plain F _ _ (by rw [p];intro c y;cases y)]
  simp [execOp,p,resolve,invoke,builtin,I,L,B,Result.andThen];exact G _ _ (h k w' A C)
theorem lY {w:World} {g:Nat} {v:Value} {T:TypeId} (h:w.heap[g]?=some (.cells #[v] T (0,0))):w.cell? ⟨g,0,none⟩=some v∧w.frozen? ⟨g,0,none⟩=false:=⟨aL h rfl,gZ h⟩
theorem qD {w:World} {g:Nat} {v:Value} {T:TypeId} (h:w.heap[g]?=some (.cells #[v] T (0,0))) (u:Value):(w.setCell ⟨g,0,none⟩ u).heap[g]?=some (.cells #[u] T (0,0)):=by
 have:=dX h (j:=0) u
 simpa using this
structure aAj (w:World):Prop where
 u:jR w
 s:Scl w
theorem aAj.below {w w':World} (h:aAj w) (a:Below w.heap.size w w'):aAj w':=⟨h.u.below a,h.s.to a⟩
theorem aLp:(69:TypeId) ≠ 5:=by decide
theorem EW {D:Nat} {S:Nat→Prop} (cs:Vl) (x:ND) (w:World) (h:aD D S w cs x) (hS:∀b,S b→b<w.heap.size) (hl:iM D x) (hw:aC 8 x=true→aP 8 x=true) (hT:aAj w):Calls prog 132 #[.agg cs.toArray] w (ON x w):=by
 obtain ⟨B,C,c1,A,E,c2,rfl⟩:=h.slices;have bb:=(((Br w.heap.size w).alloc (o:=.cells (Na x B C c1 A E c2) 28) (Lr _)).alloc (o:=.cells #[.string ⟨#[]⟩] 9) (by simp)).alloc (o:=.cells #[Iz 0] 33) (by simp;omega)
 have M:=Hn ((w.alloc (.cells (Na x B C c1 A E c2) 28)).alloc (.cells #[.string ⟨#[]⟩] 9)) (.cells #[Iz 0] 33);have F:(((w.alloc (.cells (Na x B C c1 A E c2) 28)).alloc (.cells #[.string ⟨#[]⟩] 9)).alloc (.cells #[Iz 0] 33)).heap[w.heap.size+1]?=some (.cells #[.string ⟨#[]⟩] 9 (0,0)):=(((Br _ ((w.alloc (.cells (Na x B C c1 A E c2) 28)).alloc (.cells #[.string ⟨#[]⟩] 9))).alloc (Lr _) _).block _ (by simp)).trans (by have:=Hn (w.alloc (.cells (Na x B C c1 A E c2) 28)) (.cells #[.string ⟨#[]⟩] 9);rw [Cz] at this;exact this)
 have k0:(((w.alloc (.cells (Na x B C c1 A E c2) 28)).alloc (.cells #[.string ⟨#[]⟩] 9)).alloc (.cells #[Iz 0] 33)).heap[w.heap.size]?=some (.cells (Na x B C c1 A E c2) 28 (0,0)):=((((Br _ (w.alloc (.cells (Na x B C c1 A E c2) 28))).alloc (Lr _) (.cells #[.string ⟨#[]⟩] 9)).alloc (by simp) (.cells #[Iz 0] 33)).block _ (by simp)).trans (Hn w (.cells (Na x B C c1 A E c2) 28))
 rw [Cz,Cz] at M;obtain ⟨w3,xc⟩:∃W,W=((w.alloc (.cells (Na x B C c1 A E c2) 28)).alloc (.cells #[.string ⟨#[]⟩] 9)).alloc (.cells #[Iz 0] 33):=⟨_,rfl⟩;obtain ⟨p0,xe⟩:∃p,p=w.heap.size:=⟨_,rfl⟩;obtain ⟨f,xb⟩:∃p,p=w.heap.size+1:=⟨_,rfl⟩;obtain ⟨l,xd⟩:∃p,p=w.heap.size+1+1:=⟨_,rfl⟩;rw [←xc] at bb k0 F M;rw [←xe] at k0;rw [←xb] at F;rw [←xd] at M;have xn:f ≠ l:=by omega
 have xz:w.heap.size≤p0∧w.heap.size≤f∧w.heap.size≤l:=by omega
 have q0:=aA k0;have h3:=h.same fun b hb=>bb.block b (hS b hb)
 have xy:∀b,S b→b<w3.heap.size:=fun b hb=>Ll (hS b hb) bb.size
 have xv:=hT.below bb;have V:=Hh (lG _ x w3 h3 xy hl xv.u);have J:=Hh bb;have K0:=Hh k0;have K1:=Hh F;have K2:=Hh M;have HN:=Hh (Ai h3 (Ai hS xy));have HT:=Hh xv;have HW:=Hh hw;have k:=Hh (Ai xz xn);clear h hS hl hw hT bb k0 F M h3 xy xv xz xn;cases hv:aC 8 x with
 | false=>
  rw [hv] at V;obtain ⟨e1,e2⟩:=tJ hv;have HE:=Hh (Ai e1 e2);clear hv e1 e2
  go_enter func132,ntmps132
  go_upto_region 1 with fail
  rw [←xc,←xd,←xb,←xe];clear xc xd xb xe
  go_upto_region 2 with ((with_reducible refine (V.o).mono ?_);rintro e w4 ⟨rfl,y⟩)
  have F:=(y.block _ (Aa K1.o)).trans K1.o;have M:=(y.block _ (Aa K2.o)).trans K2.o;have Z:=qD F (.string ⟨#[]⟩);have t2:=(heap_setCell_other w4 ⟨f,0,none⟩ l (.string ⟨#[]⟩) (Ne.symm k.o.2)).trans M;have s2:=qD t2 (Iz 1);have t1:=(heap_setCell_other (w4.setCell ⟨f,0,none⟩ (.string ⟨#[]⟩)) ⟨l,0,none⟩ f (Iz 1) k.o.2).trans Z;have f1:=lY F;have f2:=lY t2;have m:=((J.o.trans (y.mono J.o.size)).setCell (p:=⟨f,0,none⟩) k.o.1.2.1 (.string ⟨#[]⟩)).setCell (p:=⟨l,0,none⟩) k.o.1.2.2 (Iz 1);have r1:=aL t1 (j:=0) rfl;have r2:=aL s2 (j:=0) rfl;have R:=Hh (Ai (Ai r1 r2) m);clear F M Z t2 s2 t1 r1 r2 m y q0
  go_wp2
  refine Au (v:=.tuple #[.string ⟨#[]⟩,Iz 1]) ?_ ?_ ?_;rotate_left
  ·rfl
  ·exact ⟨by rw [HE.o.1,HE.o.2],R.o.2⟩
  ·have r1:=R.o.1.1
   have r2:=R.o.1.2;simp [results,results132,go_sem,r1,r2]
 | true=>
  rw [hv] at V;have yg:=HW.o hv;have HV:=Hh (Ai hv yg);clear hv yg;obtain ⟨ib,ye,yy,yp,yu⟩:=Ea nA;have yd:=underlying69;have xm:=underlying9;have yq:=underlying5;have y0:=Hh ye;clear ye;refine (callsIn_wide (n:=10)).1 ?_;refine callsIn_of_wp_marks func132 rfl trivial ?_ rfl;simp only [ntmps132,Eb,Ag,Bz,Nat.reduceAdd,Nat.reduceSub,Array.replicate_succ,Array.replicate_zero,List.push_toArray,List.append_toArray,Ds,Bo];refine wpIn_mono (Q:=GC _) ?_ GC.o;refine wpIn_wide.2 ?_
  go_upto_region 1 with fail
  rw [←xc,←xd,←xb,←xe];clear xc xd xb xe
  go_upto_region 3 with ((with_reducible refine (V.o).mono ?_);rintro e w4 ⟨rfl,y⟩)
  have yo:=J.o.trans (y.mono J.o.size);have ym:w3.heap.size≤w4.heap.size:=y.size;have xf:=WSc.fresh (TW:=69) (TB:=5) w4;have xk:=(Br w4.heap.size w4).alloc (o:=.cells #[Sn] 69) (Lr _);have xh:(w4.alloc (.cells #[Sn] 69)).heap.size=w4.heap.size+1:=by simp
  have xa:=y.trans (xk.mono y.size);have xw:=(xa.block _ (Aa K0.o)).trans K0.o;have q5:=aA xw
  go_upto_region 4 with fail
  generalize w4.alloc _=w5 at xf xk xh xa xw q5 ⊢;obtain ⟨g,hg⟩:∃g,g=w4.heap.size:=⟨_,rfl⟩;rw [←hg] at xf xk xh ⊢;have xi:w3.heap.size≤g:=by omega
  clear hg yo ym y
  go_wp2_with (go_at_call 149;(with_reducible refine (QP _).mono ?_);rintro e w6 ⟨rfl,rfl⟩)
  have xj:=(Br w5.heap.size w5).alloc (o:=.cells (Na x B C c1 A E c2) 28) (Lr _);have kb:=Hn w5 (.cells (Na x B C c1 A E c2) 28);have yf:=xf.below xj;have H:=xa.trans (xj.mono xa.size);have N:g<(w5.alloc (.cells (Na x B C c1 A E c2) 28)).heap.size:=Ll xf.lt xj.size;have yr:g+1≤(w5.alloc (.cells (Na x B C c1 A E c2) 28)).heap.size:=N;have xu:=(H.block _ (Aa K1.o)).trans K1.o;have xq:=(H.block _ (Aa K2.o)).trans K2.o;rw [xh] at kb;generalize w5.alloc (.cells (Na x B C c1 A E c2) 28)=w6 at kb yf H N yr xu xq ⊢;have HK:=Hh (Ai xu xq);have Y:=Hh H;have yv:aD D S w6 (Nc x B C c1 A E c2) x:=HN.o.1.same fun b hb=>H.block b (HN.o.2.2 b hb)
  have yn:xW w3.heap.size w6:=HT.o.s.below H;clear xj xk xa xf xh xw q5 xu xq H;refine wpIn_wide (n:=10).1 ?_;have t:f<g∧l<g:=⟨Ll (Aa K1.o) xi,Ll (Aa K2.o) xi⟩;refine wpIn_rangeFunc_ownH rfl (by decide) (gf:=174) (lb:=#[.pointer (some ⟨g+1,0,none⟩)]) rfl trivial (enters_of func174 (by kernel_rfl) rfl)
   (CZ (d:=8) (S:=S) w6 (fun b hb=>Ll (HN.o.2.2 b hb) xi) kb yv HV.o.1 HV.o.2 N yn xi 9) KpW.trans (aIx (Bw N)) (Br _ _) (fun _=>rfl)
   (fun i W=>WSc 69 5 (g+1) W g (lK (sT i))∧(lK (sT i)).length≤65536∧WFr 5 g w6 W)
   (fun c i W=>c=.ret∧65536<(lK (sT i)).length∧W.heap[f]?=some (.cells #[.string ⟨#[]⟩] 9 (0,0))∧W.heap[l]?=some (.cells #[Iz 3] 33 (0,0))∧Below w.heap.size w6 W)
   (fun i W W' row hs hg hr=>by
    obtain ⟨q1,q2,q3⟩:=hs;exact ⟨sG q1 hg (fun r e=>(hr r e).2),q2,sN q3 (Lr _) N hg (fun r e=>(hr r e).1) q3.1.size⟩)
   (fun c i W W' row hs hg hr=>by
    obtain ⟨hc,q1,q2,q3,q4⟩:=hs;have yh:∀ (p:Nat) (o:Obj),W.heap[p]?=some o→o.isCells=true→W'.heap[p]?=some o:=fun p o ho yt=>(hg.block p (Aa ho) fun e=>by
     obtain ⟨-,o',x5,xo⟩:=hr p e.symm;rw [ho] at x5;cases x5;rw [yt] at xo;cases xo).trans ho
    exact ⟨hc,q1,yh _ _ q2 rfl,yh _ _ q3 rfl,q4.grown hg (by have:=Y.o.size;have:=J.o.size;have:=q4.size;omega) (fun r e=>by have:=(hr r e).1;have:=Y.o.size;have:=J.o.size;omega)⟩)
   ⟨yf,Av _,WFr.refl _ _ _⟩
   (fun s a' W=>a'={ tmps:=#[.agg (Na x B C c1 A E c2),.pointer (some ⟨p0,0,none⟩),.pointer (some ⟨f,0,none⟩),.pointer (some ⟨l,0,none⟩),.pointer (some ⟨g,0,none⟩),.string s.1,.agg (Na x B C c1 A E c2),.bool true,.bool false,.agg (Na x B C c1 A E c2),.func (.func 174) #[] #[.pointer (some ⟨g+1,0,none⟩)],.string s.1,undef,undef,undef,undef,undef,undef,undef,undef,undef,undef,undef],defers:=[] })
   (fun s a' _ W W' row hs hg hr=>hs)
   ?assign ?body ?done ?stop
  case assign=>
   rintro lp i ⟨s,hs⟩ W K hI hK
   gi_wp2
   exact hK _ _ (KeepsFrom.refl _ _) (KpW.refl _ _ _) hI rfl
  case body=>
   rintro lp i ⟨s,hs⟩ a' W y3 ⟨r,hr⟩ ⟨q,I,G⟩ rfl y4;dsimp only at hs ⊢;have xt:lK (sT (i++[(⟨s,hs⟩:PcS)]))=lK (sT i)++s.data.toList:=by rw [uV,pR];simp [lK]
   have ya:s.data.toList.length=s.size:=by rw [Ah];rfl
   obtain ⟨L,hL⟩:∃L,L=lK (sT i):=⟨_,rfl⟩;rw [←hL] at q I xt;have X:=Hh (Ai xt ya);have xg:=Hh G;have y5:=Hh q;obtain ⟨v,hk,a,-⟩:=id q;obtain ⟨ao,x9,rfl,-,-⟩:=dM a;have c0:=aL hk (j:=0) rfl;have yc:g<W.heap.size:=Aa hk;have y1:(L.length:Int)≤65536:=by omega
   have y7:(s.size:Int)≤131072:=by omega
   have yz:=Hh hk;have xp:=Hh a;clear hL xt ya G q hk a
   by_cases yw:65536<L.length+s.size
   ·have yk:(65536:Int)<(L.length:Int)+(s.size:Int):=by omega
    have F:=(xg.o.1.block f t.1).trans HK.o.1;have M:=(xg.o.1.block l t.2).trans HK.o.2;have Z:=qD F (.string ⟨#[]⟩);have t2:=(heap_setCell_other W ⟨f,0,none⟩ l (.string ⟨#[]⟩) (Ne.symm k.o.2)).trans M;have s2:=qD t2 (Iz 3);have t1:=(heap_setCell_other (W.setCell ⟨f,0,none⟩ (.string ⟨#[]⟩)) ⟨l,0,none⟩ f (Iz 3) k.o.2).trans Z;have f1:=lY F;have f2:=lY t2;have m:=((xg.o.1.mono (B':=w.heap.size) (by have:=J.o.size;omega)).setCell (p:=⟨f,0,none⟩) k.o.1.2.1 (.string ⟨#[]⟩)).setCell (p:=⟨l,0,none⟩) k.o.1.2.2 (Iz 3)
    have R:=Hh (Ai (Ai t1 s2) m);clear F M Z t2 s2 t1 m
    gi_wp2
    exact ⟨((KeepsOthers.setCell _ _ _).trans (KeepsOthers.setCell _ _ _)).from _,rfl,by rw [X.o.1,Lg,X.o.2];exact yw,R.o.1.1,R.o.1.2,R.o.2⟩
   ·have yk:¬ (65536:Int)<(L.length:Int)+(s.size:Int):=by omega
    have ST:=Hh (fun (w8:World) (v':Value) (ho:w8.ownsRow (g+1) 5 1 v' (L.length+s.size) (aS L++Lib.strCells s)) (hg:W.grownBy w8 (Value.slice ao L.length x9).ownBlock)=>yQ (l':=L++s.data.toList) yz.o xp.o (Nat.lt_succ_self g) aLp (by rw [Lg,X.o.2,cF];exact ho) hg)
    have yi:Hid (g+1≤W.heap.size):=Hh yc;clear yc
    gi_wp2_with (gi_at_builtin;refine qN _ rfl _ _ 69 9 rfl (g+1) 5 ib yd xm y0.o yy yp yu _ L.length _ rfl xp.o s rfl (by unfold maxLen;omega) (by omega) yi.o ?_;intro v' w8 a z;obtain ⟨k8,yj,x8⟩:=ST.o w8 v' a z;obtain ⟨y6,y2,rfl,-,-⟩:=dM a;have f8:=lY k8;have yx:=Hh yj;have xr:=Hh x8;clear a z k8 yj x8)
    exact ⟨nP xr.o (by have:=yi.o;omega) N,KpW.of xr.o,by rw [X.o.1];exact yx.o,by rw [X.o.1,Lg,X.o.2];omega,xg.o.trans xr.o⟩
  case done=>
   rintro O xs W hD ys ⟨q,I,G⟩ hK;rw [ys] at q I;rw [GT 8 x HV.o.1] at q I;obtain ⟨e1,e2⟩:=mW HV.o.1 (show ¬65536<(aW 8 x).length by omega)
   have HE:=Hh (Ai e1 e2);obtain ⟨L,hL⟩:∃L,L=aW 8 x:=⟨_,rfl⟩;rw [←hL] at q e1;have HL:=Hh hL;obtain ⟨v,hk,a,-⟩:=id q;have y8:=eA (P:=prog) W 69 9 5 (g+1) _ v L a yd yq xm;obtain ⟨ao,x9,rfl,-,-⟩:=dM a;have c0:=aL hk (j:=0) rfl;have F:=(G.1.block f t.1).trans HK.o.1;have M:=(G.1.block l t.2).trans HK.o.2;have Z:=qD F (.string ⟨L.toArray⟩);have t2:=(heap_setCell_other W ⟨f,0,none⟩ l (.string ⟨L.toArray⟩) (Ne.symm k.o.2)).trans M;have s2:=qD t2 (Iz 0);have t1:=(heap_setCell_other (W.setCell ⟨f,0,none⟩ (.string ⟨L.toArray⟩)) ⟨l,0,none⟩ f (Iz 0) k.o.2).trans Z;have f1:=lY F;have f2:=lY t2;have U:O ≠ f:=by have:=t.1;omega
   have T:O ≠ l:=by have:=t.2;omega
   have yb:=(heap_setCell_other W ⟨f,0,none⟩ O (.string ⟨L.toArray⟩) U).trans hK;have x7:=(heap_setCell_other (W.setCell ⟨f,0,none⟩ (.string ⟨L.toArray⟩)) ⟨l,0,none⟩ O (Iz 0) T).trans yb;have xl:Below w.heap.size w W:=(J.o.trans (Y.o.mono J.o.size)).trans (G.1.mono (by have:=J.o.size;omega))
   have m:=(xl.setCell (p:=⟨f,0,none⟩) k.o.1.2.1 (.string ⟨L.toArray⟩)).setCell (p:=⟨l,0,none⟩) k.o.1.2.2 (Iz 0);have xx:w.heap.size≤O:=by have:=J.o.size;have:=Y.o.size;omega
   have R:=Hh (Ai (Ai t1 s2) (Ai m (Ai x7 xx)));clear F M Z t2 s2 t1 m yb x7 xl q hk a I U T hK G e1 e2 hL
   go_wp2
   show bodyPostM _ _ _ _ _ Exit.ret _ _
   have z:=grownBy_putObj' ((W.setCell ⟨f,0,none⟩ (.string ⟨L.toArray⟩)).setCell ⟨l,0,none⟩ (Iz 0)) O (.deferred none);refine ⟨by simp,.inl ⟨_,_,rfl,run_takeDeferred R.o.2.2.1,?_⟩⟩
   have U:O ≠ f:=by have:=t.1;omega
   have T:O ≠ l:=by have:=t.2;omega
   have r1:=aL ((z.block f (Aa R.o.1.1) (fun e=>U (Ab e).symm)).trans R.o.1.1) (j:=0) rfl
   have r2:=aL ((z.block l (Aa R.o.1.2) (fun e=>T (Ab e).symm)).trans R.o.1.2) (j:=0) rfl
   refine ⟨.tuple #[.string ⟨L.toArray⟩,Iz 0],by simp [results,results132,go_sem,r1,r2],by rw [HE.o.1,HE.o.2,←HL.o];rfl,R.o.2.1.grown z R.o.2.1.size (fun r e=>by cases e;exact R.o.2.2.2)⟩
  case stop=>
   rintro O c i W hD yl ⟨rfl,I,Z,s2,xl⟩ hK;have z:=grownBy_putObj' W O (.deferred none);have x6:=Ll I (aGy HV.o.1 _ yl);obtain ⟨e1,e2⟩:=qF HV.o.1 x6;have xx:w.heap.size≤O:=by have:=J.o.size;have:=Y.o.size;omega
   have m:=(J.o.trans (Y.o.mono J.o.size)).trans xl;have U:O ≠ f:=by have:=t.1;omega
   have T:O ≠ l:=by have:=t.2;omega
   have r1:=aL ((z.block f (Aa Z) (fun e=>U (Ab e).symm)).trans Z) (j:=0) rfl
   have r2:=aL ((z.block l (Aa s2) (fun e=>T (Ab e).symm)).trans s2) (j:=0) rfl
   refine wpIn_ret ?_
   show bodyPostM _ _ _ _ _ Exit.ret _ _
   refine ⟨by simp,.inl ⟨_,_,rfl,run_takeDeferred hK,?_⟩⟩
   refine ⟨.tuple #[.string ⟨#[]⟩,Iz 3],by simp [results,results132,go_sem,r1,r2],by rw [e1,e2],m.grown z m.size (fun r e=>by cases e;exact xx)⟩
end Go.Proofs.YtncdpanfefnjlaaGreatDoor