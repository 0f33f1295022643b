import Derived.Test.YtncdpanfefnjlaaGreatDoorVsz
set_option linter.unusedVariables false
set_option linter.unusedSimpArgs false
set_option maxHeartbeats 3200000
set_option maxRecDepth 100000
namespace Go.Proofs.YtncdpanfefnjlaaGreatDoor
open Go.Proofs.Tryz
open Go Go.ChangeShapes Go.WideShapes Go.ChangeAt Go.RowKit
def RSt (a:TypeId) (d B:Nat) (w wr:World) (x:ND) (f:Value) (j:Nat):Prop:=∃ (c:Option Addr) (e:Nat) (A:List NC),wr.heap[w.heap.size+1]?=some (.cells Z6 a (0,0))∧wr.heap[w.heap.size]?=some (.cells #[Iz x.kind,.bool x.bool,Iz x.num,.string x.text,f,.slice c A.length e] a (0,0))∧iE a d B none wr (.slice c A.length e) A∧aG A=x.items.take j∧Below w.heap.size w wr∧(∀y,y ∈ A→aD d (oA wr) wr y.1 y.2)∧bH (fun b=>Fr (w.heap.size+2) wr b∧b<B) wr f x.names
theorem frB {base B:Nat} {w w':World} {row:Option Nat} {v:Value} {ns:List Bt} (h:bH (fun b=>Fr base w b∧b<B) w v ns) (c:w.grownBy w' row) (d:∀r,row=some r→r<base∨B≤r):bH (fun b=>Fr base w' b∧b<B) w' v ns:=
 have e:∀b,(Fr base w b∧b<B)→w'.heap[b]?=w.heap[b]?:=fun b a=>c.block b a.1.2.1 (fun e=>by have f:=d b e.symm;have i:=a.1.1;have g:=a.2;omega)
 (h.same e).mono fun b a=>⟨a.1.move (e b a) (Lr _) c.size,a.2⟩
def uI (g:TypeId) (d:Nat) (w:World) (x:ND) (e:Ending) (w':World):Prop:=∃ (B:Nat) (f:Value) (a:Option Addr) (c:Nat) (A:List NC),e=.returned (.agg #[Iz x.kind,.bool x.bool,Iz x.num,.string x.text,f,.slice a A.length c])∧w.heap.size+2≤B∧x.text.size≤maxLen - 2∧bH (fun b=>Fr (w.heap.size+2) w' b∧b<B) w' f x.names∧iE g d B none w' (.slice a A.length c) A∧(∀y,y ∈ A→aD d (oA w') w' y.1 y.2)∧aG A=x.items∧Below w.heap.size w w'
theorem uI.new {l:TypeId} {d:Nat} {w w':World} {x:ND} {e:Ending} (h:uI l d w x e w'):oB (d+1) w x e w':=by
 obtain ⟨B,o,k,i,A,rfl,r,m,g,n,p,j,a⟩:=h;have c:=n.fr p;rw [j] at c;have f:∀b,Fr B w' b→Fr w.heap.size w' b:=fun b a=>⟨by have:=a.1;omega,a.2⟩
 exact ⟨[Iz x.kind,.bool x.bool,Iz x.num,.string x.text,o,.slice k A.length i],rfl,⟨_,_,rfl,m,g.mono fun b a=>⟨by have:=a.1.1;omega,a.1.2⟩,c.mono f fun s y q=>q.mono f⟩,a⟩
theorem zW {d:Nat} (HC:∀ (S:Nat→Prop) (cs:Vl) (x:ND) (w:World),aD d S w cs x→(∀b,S b→b<w.heap.size)→jZ d x→Calls prog 31 #[.agg cs.toArray] w (oB d w x))
 (S:Nat→Prop) (cs:Vl) (x:ND) (w:World) (h:aD (d+1) S w cs x) (hS:∀b,S b→b<w.heap.size) (m:jZ (d+1) x):Calls prog 31 #[.agg cs.toArray] w (uI 28 d w x):=by
 obtain ⟨ip,yd,zl,zg,y7⟩:=rE;obtain ⟨iq,x9,y0,zj,y2⟩:=rD;have zc:=underlying26;have y4:=underlying25;have zh:=Hh yd;have zb:=Hh x9;obtain ⟨a1,l1,c1,a2,l2,c2,rfl⟩:=h.slices;obtain ⟨vn,vi,e,ht,xz,yu⟩:=h;simp only [Bu,Dd,Dj] at e;obtain ⟨rfl,rfl⟩:=e;obtain ⟨w1,N⟩:∃W,W=(w.alloc (.cells (Na x a1 l1 c1 a2 l2 c2) 28)).alloc (.cells Z6 28):=⟨_,rfl⟩;have hz:(w.alloc (.cells (Na x a1 l1 c1 a2 l2 c2) 28)).heap.size=w.heap.size+1:=by simp
 have b1:Below w.heap.size w w1:=by rw [N];exact ((Br _ _).alloc (Lr _) _).alloc (by simp) _
 have yy:w1.heap[w.heap.size+1]?=some (.cells Z6 28 (0,0)):=by rw [N,←hz];exact Hn _ _
 have xt:w1.heap[w.heap.size]?=some (.cells (Na x a1 l1 c1 a2 l2 c2) 28 (0,0)):=by rw [N];exact (Bj _ _ _ (by omega)).trans (Hn _ _)
 have zq:w1.heap.size=w.heap.size+2:=by rw [N];simp
 have xo:=xz.same (w':=w1) fun b c=>b1.block b (hS b c)
 have yb:=xz.sizes;have zi:=Hh HC;have HL:=Hh m;have HS:=Hh hS;have yq:=Hh yu;have zm:=Hh xo;have x8:=Hh yb;have zf:=m.1;have cb:=aA xt;have HR:=Hh yy;have HB:=Hh xt;have yg:=Hh b1;have HT:=Hh ht;clear HC m hS xz yu xo yy xt hz yb b1 ht yd x9
 go_enter func31,ntmps31
 go_upto_region 1 with fail
 rw [←N];clear N
 go_upto_region 3 with (refine lS _ rfl (.const (Sn)) (.tmp 9) 25 rfl 9 iq y4 zb.o y0 zj y2 rfl (.slice a1 l1 c1) x.names rfl zm.o zf ?_;intro v1 T l a;obtain ⟨Q,c3,rfl,-⟩:=(show jS 9 w1.heap.size T v1 x.names from ⟨l,x8.o⟩).strs;(have J:=(a.block _ (Aa HB.o) (by simp)).trans HB.o);(have f2:=aE J);(have zn:=aA J);clear J)
 have U:jS 9 w1.heap.size T (.slice Q x.names.length c3) x.names:=⟨l,x8.o⟩;have J:=(a.block _ (Aa HB.o) (by simp)).trans HB.o
 have xq:=(a.block _ (Aa HR.o) (by simp)).trans HR.o
 have B2:Below w.heap.size w T:=yg.o.grown a yg.o.size (fun g e=>by cases e)
 have ym:w1.heap.size≤T.heap.size:=a.size;have L:=aV T w.heap.size 4 (.slice Q x.names.length c3);have x5:=lW J (.slice Q x.names.length c3);have xe:=(L.block _ (Aa xq) (by intro e;have:=Ab e;omega)).trans xq
 have s:bH (fun b=>Fr (w.heap.size+2) T b∧b<T.heap.size) T (.slice Q x.names.length c3) x.names:=(U.fr).mono fun b c=>⟨⟨by have:=c.1;omega,c.2.1,c.2.2⟩,c.2.1⟩
 have E:=frB s L (fun r e=>by have:=Ab e;exact .inl (by omega))
 have B3:Below w.heap.size w (T.setCell ⟨w.heap.size,4,none⟩ (.slice Q x.names.length c3)):=B2.grown L B2.size (fun g e=>by have:=Ab e;omega)
 have xw:=L.size;obtain ⟨w3,xs⟩:∃W,W=T.setCell ⟨w.heap.size,4,none⟩ (.slice Q x.names.length c3):=⟨_,rfl⟩;rw [←xs] at L x5 xe E B3 xw;rw [←xs];have Z:=aV w3 w.heap.size 5 (Sn);have xy:=kO x5 (Sn);have xp:=(Z.block _ (Aa xe) (by intro e;have:=Ab e;omega)).trans xe
 have xg:=frB E Z (fun r e=>by have:=Ab e;exact .inl (by omega))
 have B4:Below w.heap.size w (w3.setCell ⟨w.heap.size,5,none⟩ (Sn)):=B3.grown Z B3.size (fun g e=>by have:=Ab e;omega)
 have x6:=Z.size;obtain ⟨w4,xx⟩:∃W,W=w3.setCell ⟨w.heap.size,5,none⟩ (Sn):=⟨_,rfl⟩;rw [←xx] at xy xp xg B4 x6;rw [←xx];obtain ⟨B,yt⟩:∃B,B=T.heap.size:=⟨_,rfl⟩;rw [←yt] at xg xw;have za:w.heap.size+2≤B:=by omega
 have ye:B≤w4.heap.size:=by omega
 obtain ⟨lx,y8⟩:∃lx,lx=x.items:=⟨_,rfl⟩;have T0:Hid (RSt 28 d B w w4 x (.slice Q x.names.length c3) 0):=Hh ⟨none,0,[],xp,xy,iE.nil _ _ _ _ _,rfl,B4,(fun y hy=>by cases hy),xg⟩
 have y5:l2=x.items.length:=by obtain ⟨_,_,e,-⟩:=yq.o;cases e;rfl
 subst y5;clear l a U J xq B2 ym L x5 xe s E B3 xw Z xy xp xg B4 x6 xs xx yt f2 zn cb y8 lx
 go_wp2
 go_loopw [15] (fun i wr=>∃j:Nat,i=Iz j∧j≤x.items.length∧B≤wr.heap.size∧RSt 28 d B w wr x (.slice Q x.names.length c3) j) (fun i _=>x.items.length - (intOf i).toNat)
 case atStart=>exact ⟨0,rfl,Av _,ye,T0.o⟩
 case round=>
  clear T0 ye;obtain ⟨j,rfl,hj,yz,ai,ci,A,k,G,I,hA,hB,xi,xc⟩:=hrel
  by_cases yc:j<x.items.length
  ·have yw:(j:Int)<(x.items.length:Int):=by omega
   have zw:(0:Int)≤(j:Int):=by omega
   have zu:(x.items.length:Int)≤1000000:=by have:=HL.o.2.1;omega
   have yp:=Hh yc;obtain ⟨-,-,-,b,P,y,b1,m1,n1,b2,m2,n2,rfl,zk,hx,yh,q0,q1,q2,q3,q4,q5⟩:=yq.o.at yc;have O:=HS.o b zk;have r0:=(hB.cell (p:=⟨b,P+j * 6,none⟩) O).trans q0;have r1:=(hB.cell (p:=⟨b,P+j * 6+1,none⟩) O).trans q1;have r2:=(hB.cell (p:=⟨b,P+j * 6+2,none⟩) O).trans q2;have r3:=(hB.cell (p:=⟨b,P+j * 6+3,none⟩) O).trans q3;have r4:=(hB.cell (p:=⟨b,P+j * 6+4,none⟩) O).trans q4;have r5:=(hB.cell (p:=⟨b,P+j * 6+5,none⟩) O).trans q5;clear q0 q1 q2 q3 q4 q5;have zd:A.length=j:=by
    have:=Ad List.length hA;rw [aG,Bk,Bc] at this;omega
   have zo:A.length<1000000:=by omega
   clear zd;have m:=HL.o.2.2 y (Ao hx);have bA:=(Br wr.heap.size wr).alloc (o:=.cells (Na y b1 m1 n1 b2 m2 n2) 28) (Lr _);have kA:=Hn wr (.cells (Na y b1 m1 n1 b2 m2 n2) 28);have t:=Hh G;have n:=Hh k;have H:=Hh I;have q:=Hh hB;have y3:=Hh xi;have xv:=Hh xc;have HX:=Hh hx;have HA:=Hh hA;have ze:=Hh yh;have yx:=Hh m;clear G k I hB xi xc hx hA yh m
   go_upto_region 6 with fail
   clear r0 r1 r2 r3 r4 r5;generalize wr.alloc (.cells (Na y b1 m1 n1 b2 m2 n2) 28)=W1 at bA kA ⊢;have bd:Below W1.heap.size W1 W1.drew:=(Br _ _).drew;have k1:=(bA.block _ (Aa t.o)).trans t.o;have CK:=Hh (fun (wx:World) (c:Below W1.heap.size W1 wx)=>Ai (aA ((c.block _ (Aa k1)).trans k1)).2.2.2.2.2 (aA ((c.block _ (Aa kA)).trans kA)))
   have yn:=bA.size;have x7:=Hh bA;clear bA kA k1;refine aI (fun w'=>w'.cell? ⟨w.heap.size,5,none⟩=some (.slice ai A.length ci)∧(w'.cell? ⟨wr.heap.size,0,none⟩=some (Iz y.kind)∧w'.cell? ⟨wr.heap.size,1,none⟩=some (.bool y.bool)∧w'.cell? ⟨wr.heap.size,2,none⟩=some (Iz y.num)∧w'.cell? ⟨wr.heap.size,3,none⟩=some (.string y.text)∧w'.cell? ⟨wr.heap.size,4,none⟩=some (.slice b1 m1 n1)∧w'.cell? ⟨wr.heap.size,5,none⟩=some (.slice b2 m2 n2))) [1,2] (.take 0 (.take 1 (.take 2 (.ask 3 true (.ask 4 true (.ask 5 false (.take 6 (.ask 7 false .stop .stop)) .stop) .stop) .stop)))) (by kernel_rfl) (by kernel_rfl) (fun _ d _ _ _ h=>by cases d <;> exact h) (CK.o _ bd) ?_
   have M:=x7.o.trans (bd.mono yn);generalize W1.drew=wd at bd M ⊢;refine aF _ ?_ rfl rfl ?_ (fun K hK=>?_);rotate_left;(intro w0;go_simp;(try rfl));(go_simp;refine hK _ ?_;clear hK K)
   iterate 2 (refine aM _ ?_ rfl rfl (by decide) ?_ (fun K hK=>?_);rotate_left;(intro w0 zt;go_simp;(try rfl));(go_simp;refine hK _ ?_;clear hK K))
   have CC:=Hh (zi.o S _ y wd (ze.o.same fun b c=>(M.block b (Ll (HS.o b c) q.o.size)).trans (q.o.block b (HS.o b c))) (fun b c=>Ll (Ll (HS.o b c) q.o.size) M.size) yx.o)
   refine aH _ rfl trivial ?_
   go_wp2_with (go_at_call 31;(with_reducible refine (CC.o).mono ?_);rintro e W2 ⟨cy,rfl,s,yk⟩;obtain ⟨a5,l5,c5,a6,l6,c6,rfl⟩:=s.slices)
   have B2:=bd.trans (yk.mono bd.size);refine Seg.mk ⟨CK.o _ B2,?_⟩;have b3:=(Br W2.heap.size W2).alloc (o:=.cells (Na y a5 l5 c5 a6 l6 c6) 28) (Lr _);have ys:=cX W2 (Na y a5 l5 c5 a6 l6 c6) 28 (Nc y a5 l5 c5 a6 l6 c6) rfl;have B3:=B2.trans (b3.mono B2.size);have yj:=CK.o _ B3;have f:=x7.o.trans (B3.mono yn);have D:=H.o.below f;have X:=iE.plain H.o y3.o (Below.grown f) (fun r e=>by cases e)
   have xd:=q.o.trans (f.mono q.o.size);have R:=frB xv.o (Below.grown f) (fun r e=>by cases e)
   have E:=s.same (w':=W2.alloc (.cells (Na y a5 l5 c5 a6 l6 c6) 28)) fun b c=>b3.block b c.2.1
   have xu:B≤(W2.alloc (.cells (Na y a5 l5 c5 a6 l6 c6) 28)).heap.size:=Af yz f.size;have yo:=s.one;refine aH _ rfl trivial ?_
   go_wp2_with fail
   generalize y9:W2.alloc (.cells (Na y a5 l5 c5 a6 l6 c6) 28)=W3 at b3 ys B3 yj f D X xd R E xu ⊢;clear y9;refine Seg.mk ⟨yj,?_⟩;refine aB _ rfl trivial ?_;have xb:=Hh D;have y1:=Hh ys
   go_wp2_with (refine Ay _ rfl (.tmp 20) (.tmp 23) 26 rfl B 28 ip (.agg Z6) 6 88 zc zh.o zl zg y7 rfl (by decide) (.slice ai A.length ci) A.length _ rfl xb.o.1 ⟨W2.heap.size,0,none⟩ 1 1 (Nc y a5 l5 c5 a6 l6 c6) rfl rfl y1.o yo (by decide) (by unfold maxLen;omega) (by omega) xu _ rfl ?_;intro gg cc W8 l a yi zp)
   have xh:∀g,(Value.slice ai A.length ci).ownBlock=some g→B≤g:=fun g e=>(xb.o.1.lt _ e).1
   have xf:=(a.block _ (Ll (Aa t.o) f.size) (fun e=>by have:=xh _ e.symm;omega)).trans ((f.block _ (Aa t.o)).trans t.o)
   have F:=(a.block _ (Ll (Aa n.o) f.size) (fun e=>by have:=xh _ e.symm;omega)).trans ((f.block _ (Aa n.o)).trans n.o)
   have zv:=aE xf;have zr:=aA xf;have C:=xb.o.push (x:=y) l a (fV yi) (fun b e=>by cases e) (E.mono fun b c=>⟨by have:=c.1;have:=M.size;omega,Ll c.2.1 b3.size,GX H.o.1 (Af M.size c.1),by simp⟩)
   have xm:∀z,z ∈ A++[((Nc y a5 l5 c5 a6 l6 c6),y)]→aD d (oA W8) W8 z.1 z.2:=by
    intro z hz;rcases Bg.1 hz with hz | hz
    ·exact iE.plain xb.o X a (fun r e=>.inr e) z hz
    ·cases At.1 hz
     have e8:∀b,Fr wd.heap.size W2 b→W8.heap[b]?=W2.heap[b]?:=fun b c=>(a.block b (Ll c.2.1 b3.size) (fun e=>GX H.o.1 (Af M.size c.1) e.symm)).trans (b3.block b c.2.1)
     exact (s.same e8).mono fun b c=>(c.move (base':=0) (e8 b c) (Av _) (Af b3.size a.size)).2.2
   have xr:Below w.heap.size w W8:=xd.grown a xd.size (fun g e=>by have:=xh _ e;omega)
   have xl:=frB R a (fun r e=>.inr (xh r e))
   have u:=aV W8 w.heap.size 5 (.slice (some ⟨gg,0,none⟩) (A.length+1) cc);have ya:=kO xf (.slice (some ⟨gg,0,none⟩) (A.length+1) cc);have xa:=(u.block _ (Aa F) (by intro e;have:=Ab e;omega)).trans F
   have Y:=C.kept u (fun r e=>.inl (by have:=Ab e;omega)) (.inl rfl)
   have xn:=iE.plain C xm u (fun r e=>.inl (by have:=Ab e;omega))
   have yv:Below w.heap.size w (W8.setCell ⟨w.heap.size,5,none⟩ (.slice (some ⟨gg,0,none⟩) (A.length+1) cc)):=xr.grown u xr.size (fun g e=>by have:=Ab e;omega)
   have xk:=frB xl u (fun r e=>.inl (by have:=Ab e;omega))
   have yr:B≤(W8.setCell ⟨w.heap.size,5,none⟩ (.slice (some ⟨gg,0,none⟩) (A.length+1) cc)).heap.size:=Af xu (Af a.size u.size);have V:(A++[(((Nc y a5 l5 c5 a6 l6 c6):Vl),y)]).length=A.length+1:=by simp
   have F9:=Hh (show RSt 28 d B w (W8.setCell ⟨w.heap.size,5,none⟩ (.slice (some ⟨gg,0,none⟩) (A.length+1) cc)) x (.slice Q x.names.length c3) (j+1) from ⟨some ⟨gg,0,none⟩,cc,_,xa,by rw [V];exact ya,by rw [V];exact Y,by rw [nG HX.o,←HA.o];simp [aG],yv,xn,xk⟩)
   clear ya xa Y xn yv xk V C xm xr xl u F xf l a yi X xd D R E s yk b3;refine Seg.mk ?_;refine aF _ ?_ rfl rfl ?_ (fun K hK=>?_);rotate_left;(intro w0;go_simp;(try rfl));(go_simp;refine hK _ ?_;clear hK K)
   refine bQ _ rfl trivial ?_
   go_wp2
   go_roundw
   case rel=>exact ⟨j+1,by go_num,by have:=yp.o;omega,yr,F9.o⟩
   case measure=>have:=yp.o;simp [intOf];omega
  ·have yw:¬ (j:Int)<(x.items.length:Int):=by omega
   have yf:j=x.items.length:=by omega
   rw [yf,List.take_length] at hA;have q1:=aA G;have q2:=aA k;have q3:=aE k;have HA:=Hh hA;have n:=Hh k;have HN:=Hh (Ai I xi);have q:=Hh hB;have xv:=Hh xc;clear hA k G I xi hB yf xc
   go_wp2
   have yl:=dG n.o (Iz x.kind) (.bool x.bool) (Iz x.num) (.string x.text) (.slice Q x.names.length c3) (.slice ai A.length ci);have xj:=aO wr (w.heap.size+1) (Iz x.kind) (.bool x.bool) (Iz x.num) (.string x.text) (.slice Q x.names.length c3) (.slice ai A.length ci);refine Au (v:=.agg #[Iz x.kind,.bool x.bool,Iz x.num,.string x.text,.slice Q x.names.length c3,.slice ai A.length ci]) ?_ ?_ ?_;rotate_left
   ·rfl
   ·have y6:∀r,some (w.heap.size+1)=some r→r<B∨(none:Option Nat)=some r:=fun r e=>.inl (by have:=Ab e;omega)
    exact ⟨B,_,_,_,A,rfl,za,HT.o,frB xv.o xj (fun r e=>.inl (by have:=Ab e;omega)),HN.o.1.kept xj y6 (.inl rfl),iE.plain HN.o.1 HN.o.2 xj (fun r e=>.inl (by have:=Ab e;omega)),HA.o,q.o.grown xj q.o.size (fun g e=>by have:=Ab e;omega)⟩
   ·obtain ⟨q0,q1,q2,q3,q4,q5⟩:=aA yl
    simp only [dJ] at q0 q1 q2 q3 q4 q5;simp [results,results31,go_sem,q0,q1,q2,q3,q4,q5]
theorem uZ:∀ (d:Nat) (S:Nat→Prop) (a:Vl) (x:ND) (w:World),aD d S w a x→(∀b,S b→b<w.heap.size)→jZ d x→Calls prog 31 #[.agg a.toArray] w (oB d w x)
 | 0,S,a,x,w,h,_,_=>h.elim
 | d+1,S,a,x,w,h,c,f=>(zW (fun S a x w h c f=>uZ d S a x w h c f) S a x w h c f).mono fun e w' h=>h.new
theorem QH (d:Nat) (S:Nat→Prop) (a:Vl) (x:ND) (w:World) (h:aD (d+1) S w a x) (c:∀b,S b→b<w.heap.size) (e:jZ (d+1) x):Calls prog 31 #[.agg a.toArray] w (uI 28 d w x):=zW (fun S a x w h c e=>uZ d S a x w h c e) S a x w h c e
theorem QU {b i:Nat} {w:World} {e:TypeId} {size n:Nat} {v:Value} {d:Vl} (h:w.ownsRow b e size v n d) (l:i≤b):w.ownsRow i e size v n d:=by
 obtain ⟨f,k | ⟨g,a,c,j,m,r⟩⟩:=h
 ·exact ⟨f,.inl k⟩
 ·exact ⟨f,.inr ⟨g,a,c,j,by omega,r⟩⟩
theorem aCv {d:Nat} {S v:Nat→Prop} {w w':World} {f:Vl} {t:Bt} (h:aD d S w f (tN t)):aD d v w' f (tN t):=by
 cases d with
 | zero=>exact h
 | succ d=>
  obtain ⟨r,k,e,q,⟨a,c,l,i,n,-⟩,⟨u,g,p,m,o,-⟩⟩:=h;exact ⟨r,k,e,q,⟨a,c,l,i,n,fun j s b=>by simp [tN,ND.names] at b⟩,⟨u,g,p,m,o,fun j s b=>by simp [tN,ND.items] at b⟩⟩
structure PuS (TN:TypeId) (d B:Nat) (w wr:World) (gx:Nat) (vt:Array Value) (vn:Value) (ai:Option Addr) (ci:Nat) (ns:List Bt) (A:List NC):Prop where
 val:wr.heap[w.heap.size+1]?=some (.cells vt TN (0,0))
 res:wr.heap[w.heap.size+2]?=some (.cells Z6 TN (0,0))
 nod:wr.heap[gx]?=some (.cells #[Iz 5,.bool false,Iz 0,.string ⟨#[]⟩,vn,.slice ai A.length ci] TN (0,0))
 lo:w.heap.size+3≤B∧B≤gx∧(Value.slice ai A.length ci).ownBlock ≠ some gx
 names:bH (fun b=>w.heap.size+3≤b∧b<B) wr vn ns
 row:wr.ownsRow B TN 6 (.slice ai A.length ci) A.length (cM A)
 old:∀y,y ∈ A→aD d (fun b=>B≤b∧b<wr.heap.size∧(Value.slice ai A.length ci).ownBlock ≠ some b∧b ≠ gx) wr y.1 y.2
 bel:Below w.heap.size w wr
section
variable {TN:TypeId} {d B gx ci:Nat} {w wr wn:World} {vt:Array Value} {vn:Value} {ai:Option Addr} {ns:List Bt} {A:List NC}
theorem PuS.below (h:PuS TN d B w wr gx vt vn ai ci ns A) (a:Below wr.heap.size wr wn):PuS TN d B w wn gx vt vn ai ci ns A:=by
 have c:∀ {b:Nat} {o:Obj},wr.heap[b]?=some o→wn.heap[b]?=some o:=fun h=>(a.block _ (Aa h)).trans h
 have e:=h.lo;have g:=Aa h.nod;exact ⟨c h.val,c h.res,c h.nod,h.lo,h.names.same fun b q=>a.block b (by have:=q.2;omega),fQ h.row a,fun y f=>((h.old y f).same fun b q=>a.block b q.2.1).mono fun b q=>⟨q.1,Ll q.2.1 a.size,q.2.2⟩,h.bel.trans (a.mono h.bel.size)⟩
theorem PuS.set {g i:Nat} {a b c l e f:Value} {y:ND} (h:PuS TN d B w wr gx vt vn (some ⟨g,0,none⟩) ci ns A) (E:i<A.length) (u:∀S w',aD d S w' [a,b,c,l,e,f] y) :
 PuS TN d B w ((((((wr.setCell ⟨g,i * 6,none⟩ a).setCell ⟨g,i * 6+1,none⟩ b).setCell ⟨g,i * 6+2,none⟩ c).setCell ⟨g,i * 6+3,none⟩ l).setCell ⟨g,i * 6+4,none⟩ e).setCell ⟨g,i * 6+5,none⟩ f) gx vt vn (some ⟨g,0,none⟩) ci ns (A.set i ([a,b,c,l,e,f],y)):=by
 have n:=zI wr g (i * 6) a b c l e f;have j:=LX h.row i a b c l e f;have D:∀y,y ∈ A→y.1.length=6:=fun y u=>(h.old y u).len
 rw [rS A i a b c l e f y D E] at j;have x:=h.lo;have C:=(h.row.lt g rfl);have m:g ≠ gx:=fun e=>h.lo.2.2 (by rw [e];rfl)
 have F:=Aa h.nod;have p:∀ {b:Nat} {o:Obj},b ≠ g→wr.heap[b]?=some o→_:=fun {b o} r v=>(n.block b (Aa v) (by intro e;exact r (Ab e))).trans v
 have s:(A.set i ([a,b,c,l,e,f],y)).length=A.length:=List.length_set;refine ⟨p (by omega) h.val,p (by omega) h.res,by rw [s];exact p (fun e=>m e.symm) h.nod,by rw [s];exact h.lo,h.names.same fun b q=>n.block b (by have:=q.2;omega) (by intro e;have:=Ab e;have:=q.2;omega),by rw [s];exact j,?_,?_⟩
 ·intro z t
  rw [s];rcases List.mem_or_eq_of_mem_set t with t | rfl
  ·exact ((h.old z t).same fun b q=>n.block b q.2.1 (by intro e;have:=Ab e;exact q.2.2.1 (by rw [this];rfl))).mono fun b q=>⟨q.1,Ll q.2.1 n.size,q.2.2⟩
  ·exact u _ _
 ·have r:=h.bel
  exact r.grown n r.size fun k p=>by have:=Ab p;omega
theorem PuS.node (h:PuS TN d B w wr gx vt vn ai ci ns A):aD (d+1) (fun b=>w.heap.size+3≤b∧b<wr.heap.size) wr [Iz 5,.bool false,Iz 0,.string ⟨#[]⟩,vn,.slice ai A.length ci] (.mk 5 false 0 ⟨#[]⟩ ns (aG A)):=by
 have s:=h.lo;have o:=Aa h.nod;have t:∀y,y ∈ A→y.1.length=6:=fun y I=>(h.old y I).len
 have m:=h.row;refine ⟨_,_,rfl,Av _,h.names.mono fun b q=>⟨q.1,by have:=q.2;omega⟩,?_⟩
 have n:(aG A).length=A.length:=by simp [aG]
 rcases m.2 with ⟨e,l⟩ | ⟨g,G,v,e,C,r,i,k,z,F⟩
 ·have p:A=[]:=Aw.1 l
  subst p;rw [e];exact cE.nil _ _ _
 ·cases e
  refine ⟨_,ci,by rw [show (ND.mk 5 false 0 ⟨#[]⟩ ns (aG A)).items=aG A from rfl,n],by rw [show (ND.mk 5 false 0 ⟨#[]⟩ ns (aG A)).items=aG A from rfl,n];exact i,k,fun j x E=>?_⟩
  have a:(aG A)[j]?=some x:=E;have c:j<A.length:=by have:=dT a;omega
  have e:A[j]?=some (A[j].1,A[j].2):=by rw [Ac c]
  have H:x=A[j].2:=by
   rw [aG,Be,e] at a;exact (Ab a).symm
  subst H;refine ⟨g,0,A[j].1,rfl,⟨by omega,Aa r⟩,fun f u D=>?_,(h.old _ (Du c)).mono fun b q=>⟨by have:=q.1;omega,q.2.1⟩⟩
  have:=m.cells (g:=g) rfl _ _ (jX t e f u D);rw [Bs,←Nat.add_assoc] at this;exact this
end
theorem oS {d:Nat} {S:Nat→Prop} {w:World} {a:Vl} {t:Bt} (h:aD d S w a (tN t)):∃c e c1 f b c2,a=[Iz 3,.bool false,Iz 0,.string t,.slice c e c1,.slice f b c2]:=h.slices
theorem aHg {i:TypeId} {d:Nat} {w w':World} {x:ND} {e:Ending} (f:cO 7 x) (h:uI i d w x e w'):∃ (B:Nat) (g:Value) (c:Option Addr) (a:Nat) (A:List NC),e=.returned (.agg #[Iz 5,.bool false,Iz 0,.string ⟨#[]⟩,g,.slice c A.length a])∧w.heap.size+2≤B∧bH (fun b=>Fr (w.heap.size+2) w' b∧b<B) w' g x.names∧iE i d B none w' (.slice c A.length a) A∧aG A=x.items∧Below w.heap.size w w':=by
 obtain ⟨B,g,c,a,A,e,m,o,j,n,p,l,k⟩:=h;rw [f.kind,f.bool,f.num,f.text] at e;exact ⟨B,g,c,a,A,e,m,j,n,l,k⟩
def aIr (d:Nat) (w:World) (y:ND) (e:Ending) (w':World):Prop:=∃a c:Value,e=.returned (.tuple #[.agg #[Iz 5,.bool false,Iz 0,.string ⟨#[]⟩,a,c],Iz 0])∧aD d (fun b=>w.heap.size≤b∧b<w'.heap.size) w' [Iz 5,.bool false,Iz 0,.string ⟨#[]⟩,a,c] y∧Below w.heap.size w w'
def aKn (d:Nat) (w:World) (y:ND) (e:Ending) (w':World):Prop:=(aC 8 y=true∧aIr d w y e w')∨(aC 8 y=false∧e=.returned (.tuple #[.agg Z6,Iz 1])∧Below w.heap.size w w')
theorem aHi {d i:Nat} {x:ND} {t:Bt} (h:jZ (d+1) x):jZ (d+1) (.mk 5 false 0 ⟨#[]⟩ x.names (x.items.set i (tN t))):=by
 refine ⟨h.1,by show (x.items.set i (tN t)).length≤_;rw [List.length_set];exact h.2.1,fun y a=>?_⟩
 rcases List.mem_or_eq_of_mem_set (show y ∈ x.items.set i (tN t) from a) with a | rfl
 ·exact h.2.2 y a
 ·exact tK t
theorem aGx {d i:Nat} {S:Nat→Prop} (cs:Vl) (x:ND) (s t:Bt) (w:World) (h:aD (d+1) S w cs x) (hS:∀b,S b→b<w.heap.size) (G:cO 7 x) (h0:x.names[i]?=some s) (hd:1≤d) (ht:t.size≤100) (hT:jR w) :
 Calls prog 14 #[.agg cs.toArray,.string s,.agg #[Iz 3,.bool false,Iz 0,.string t,Sn,Sn]] w (aKn (d+1) w (.mk 5 false 0 ⟨#[]⟩ x.names (x.items.set i (tN t)))):=by
 obtain ⟨a1,l1,c1,a2,l2,c2,rfl⟩:=h.slices;have xn:aC 8 x=true:=(cK G.kind).2 G;rw [G.kind,G.bool,G.num,G.text] at h;rw [G.kind,G.bool,G.num,G.text];obtain ⟨w1,z⟩:∃W,W=((w.alloc (.cells #[Iz 5,.bool false,Iz 0,.string ⟨#[]⟩,.slice a1 l1 c1,.slice a2 l2 c2] 28)).alloc (.cells #[Iz 3,.bool false,Iz 0,.string t,Sn,Sn] 28)).alloc (.cells Z6 28):=⟨_,rfl⟩;have z1:(w.alloc (.cells #[Iz 5,.bool false,Iz 0,.string ⟨#[]⟩,.slice a1 l1 c1,.slice a2 l2 c2] 28)).heap.size=w.heap.size+1:=by simp
 have z2:((w.alloc (.cells #[Iz 5,.bool false,Iz 0,.string ⟨#[]⟩,.slice a1 l1 c1,.slice a2 l2 c2] 28)).alloc (.cells #[Iz 3,.bool false,Iz 0,.string t,Sn,Sn] 28)).heap.size=w.heap.size+2:=by simp
 have b1:Below w.heap.size w w1:=by rw [z];exact (((Br _ _).alloc (Lr _) _).alloc (by simp) _).alloc (by simp;omega) _
 have k0:w1.heap[w.heap.size]?=some (.cells #[Iz 5,.bool false,Iz 0,.string ⟨#[]⟩,.slice a1 l1 c1,.slice a2 l2 c2] 28 (0,0)):=by rw [z];exact (Bj _ _ _ (by omega)).trans ((Bj _ _ _ (by omega)).trans (Hn _ _))
 have k1:w1.heap[w.heap.size+1]?=some (.cells #[Iz 3,.bool false,Iz 0,.string t,Sn,Sn] 28 (0,0)):=by
  have:=Hn (w.alloc (.cells #[Iz 5,.bool false,Iz 0,.string ⟨#[]⟩,.slice a1 l1 c1,.slice a2 l2 c2] 28)) (.cells #[Iz 3,.bool false,Iz 0,.string t,Sn,Sn] 28);rw [z1] at this;rw [z];exact (Bj _ _ _ (by omega)).trans this
 have k2:w1.heap[w.heap.size+2]?=some (.cells Z6 28 (0,0)):=by
  have:=Hn ((w.alloc (.cells #[Iz 5,.bool false,Iz 0,.string ⟨#[]⟩,.slice a1 l1 c1,.slice a2 l2 c2] 28)).alloc (.cells #[Iz 3,.bool false,Iz 0,.string t,Sn,Sn] 28)) (.cells Z6 28);rw [z2] at this;rw [z];exact this
 have z3:w1.heap.size=w.heap.size+3:=by rw [z];simp
 have xa:=dS 8 (d+1) x xn;have O:∀J,Below w.heap.size w J→aD (d+1) S J [Iz 5,.bool false,Iz 0,.string ⟨#[]⟩,.slice a1 l1 c1,.slice a2 l2 c2] x:=fun J F=>h.same fun b q=>F.block b (hS b q)
 have V1:=Hh (jF _ x w1 (O w1 b1) (fun b q=>Ll (hS b q) b1.size) (fK xa) (hT.below b1))
 rw [xn] at V1;have CX:=Hh (fun (J:World) (F:Below w.heap.size w J)=>QH d S _ x J (O J F) (fun b q=>Ll (hS b q) F.size) xa |>.mono fun e w' q=>aHg G q)
 have CT:=Hh (fun (J:World)=>uZ d (fun _=>False) [Iz 3,.bool false,Iz 0,.string t,Sn,Sn] (tN t) J ((cJ _ J 3 false 0 t (by unfold maxLen;omega)).deeper hd) (fun b q=>q.elim) (tK t))
 have K1:=Hh k1;have K2:=Hh k2;have B1:=Hh b1;have Z3:=Hh z3;have HX:=Hh G;have HT:=Hh hT;have H0:=Hh h0;have xs:=Hh xa;have cb:=aA k0;have K0:=Hh k0;clear h hS G xn h0 hT b1 k0 k1 k2 z1 z2 z3 xa O
 go_enter func14,ntmps14
 go_upto_region 1 with fail
 rw [←z];clear z
 go_upto_region 3 with ((with_reducible refine (V1.o).mono ?_);rintro e w2 ⟨rfl,Y⟩;(have yd:=aA ((Y.block _ (Aa K0.o)).trans K0.o)))
 have B2:=Hh (B1.o.trans (Y.mono B1.o.size));have xp:=Hh Y;clear cb V1 Y
 go_upto_region 4 with ((with_reducible refine (CX.o _ B2.o).mono ?_);rintro e C ⟨B,vn,ai,ci,A,rfl,hB,xo,E,hA,R⟩;obtain ⟨a3,c3,rfl,-⟩:=id xo)
 have xd:bH (fun b=>Fr (w2.heap.size+2) C b∧b<B) C (.slice a3 x.names.length c3) x.names:=xo
 clear xo;have b4:=(Br C.heap.size C).alloc (o:=.cells #[Iz 5,.bool false,Iz 0,.string ⟨#[]⟩,.slice a3 x.names.length c3,.slice ai A.length ci] 28) (Lr _);have k4:=Hn C (.cells #[Iz 5,.bool false,Iz 0,.string ⟨#[]⟩,.slice a3 x.names.length c3,.slice ai A.length ci] 28);have HP:Hid (PuS 28 d (min B C.heap.size) w (C.alloc (.cells #[Iz 5,.bool false,Iz 0,.string ⟨#[]⟩,.slice a3 x.names.length c3,.slice ai A.length ci] 28)) C.heap.size #[Iz 3,.bool false,Iz 0,.string t,Sn,Sn] (.slice a3 x.names.length c3) ai ci x.names A):=by
  have X:=Z3.o;have s2:=xp.o.size;have s3:=R.size;have hk:∀ {b:Nat} {o:Obj},w1.heap[b]?=some o→(C.alloc (.cells #[Iz 5,.bool false,Iz 0,.string ⟨#[]⟩,.slice a3 x.names.length c3,.slice ai A.length ci] 28)).heap[b]?=some o:=fun {b o} hh=>(b4.block _ (by have:=Aa hh;omega)).trans ((R.block _ (by have:=Aa hh;omega)).trans ((xp.o.block _ (Aa hh)).trans hh))
  have xc:min B C.heap.size≤B:=Nat.min_le_left _ _;have xl:min B C.heap.size≤C.heap.size:=Nat.min_le_right _ _;refine Hh ⟨hk K1.o,hk K2.o,k4,⟨Nat.le_min.2 ⟨by omega,by omega⟩,xl,fun e=>by have:=(E.1.lt _ e).2;omega⟩,(xd.same fun b q=>b4.block b q.1.2.1).mono fun b q=>⟨by have:=q.1.1;omega,Nat.lt_min.2 ⟨q.2,q.1.2.1⟩⟩,QU (fQ E.1 b4) xc,fun y hy=>((E.2.2 y hy).same fun b q=>b4.block b q.2.1).mono fun b q=>⟨Af xc q.1,Ll q.2.1 b4.size,q.2.2.1,by have:=q.2.1;omega⟩,B2.o.trans ((R.trans (b4.mono R.size)).mono B2.o.size)⟩
 have HA:=Hh hA;clear yd CX hB xd E R hA b4 k4 xp;generalize min B C.heap.size=Bx at HP;generalize C.alloc _=w4 at HP ⊢;generalize C.heap.size=gx at HP ⊢;have cn:=aA HP.o.nod;have yj:=xs.o.1
 go_upto_region 6 with fail
 clear cn
 go_loopw [9,26] (fun fo iv wr=>∃ (j:Nat) (L:List NC),iv=Iz j∧j≤x.names.length∧PuS 28 d Bx w wr gx #[Iz 3,.bool false,Iz 0,.string t,Sn,Sn] (.slice a3 x.names.length c3) ai ci x.names L∧L.length=A.length∧((j≤i∧fo=.bool false∧aG L=x.items)∨(i<j∧fo=.bool true∧aG L=x.items.set i (tN t)))) (fun _ i _=>x.names.length - (intOf i).toNat)
 case atStart=>exact ⟨0,A,rfl,Av _,HP.o,rfl,.inl ⟨Av _,rfl,HA.o⟩⟩
 case round=>
  clear HP;obtain ⟨j,L,rfl,hj,U,xw,P⟩:=hrel;have a:=Hh U;have xf:=Hh xw;clear U xw
  by_cases xt:j<x.names.length
  ·have xy:(j:Int)<(x.names.length:Int):=by omega
   have yk:(0:Int)≤(j:Int):=by omega
   have yh:(x.names.length:Int)≤1000000:=by omega
   have I:=Hh xt;obtain ⟨r,xj⟩:∃r,x.names[j]?=some r:=⟨_,Ac xt⟩;obtain ⟨bq,oq,rfl,x7,rq⟩:=a.o.names.get xj;have xq:=Hh xj;have cn:=aA a.o.nod;have ct:=aA a.o.val;clear xj x7;rcases P with ⟨X,rfl,c⟩ | ⟨X,rfl,c⟩
   ·rcases Cf j i with xb | xb
    ·have m:r ≠ s:=fun e=>by
      have T:=xq.o;rw [e] at T;have h2:=(List.getElem?_inj (by omega) HX.o.nodup).1 (T.trans H0.o.symm)
      omega
     have e1:(r.toList == s.toList)=false:=jE m;have D:=Hh c;have yc:=Hh xb;clear m c X xb
     go_wp2
     go_roundw
     case rel=>exact ⟨j+1,L,by go_num,by have:=I.o;omega,a.o,xf.o,.inl ⟨yc.o,rfl,D.o⟩⟩
     case measure=>have:=I.o;simp [intOf];omega
    have X:j=i:=by omega
    have m:r=s:=by have T:=xq.o;rw [X,H0.o] at T;exact (Ab T).symm
    have e1:(r.toList == s.toList)=true:=nH m;have HZ:=Hh X;have D:=Hh c;have xr:j<L.length:=by
     have T:=Ad List.length c;rw [aG,Bk] at T;have:=HX.o.len;omega
    clear m X c xb;obtain ⟨g,rfl⟩:∃g,ai=some ⟨g,0,none⟩:=by
     rcases a.o.row.2 with ⟨e,h0⟩ | ⟨g,yg,yi,e,_⟩
     ·omega
     ·cases e;exact ⟨g,rfl⟩
    have yl:(j:Int)<(L.length:Int):=by omega
    have xx:=Hh xr;clear xr
    go_upto_region 9 with fail
    clear rq;have bd:Below wr.heap.size wr wr.drew:=(Br _ _).drew;have CK:=Hh (fun (J:World) (F:Below wr.heap.size wr J)=>Ai (aA ((F.block _ (Aa a.o.nod)).trans a.o.nod)).2.2.2.2.2 (aA ((F.block _ (Aa a.o.val)).trans a.o.val)))
    refine aI (fun w'=>w'.cell? ⟨gx,5,none⟩=some (.slice (some ⟨g,0,none⟩) L.length ci)∧(w'.cell? ⟨w.heap.size+1,0,none⟩=some (Iz 3)∧w'.cell? ⟨w.heap.size+1,1,none⟩=some (.bool false)∧w'.cell? ⟨w.heap.size+1,2,none⟩=some (Iz 0)∧w'.cell? ⟨w.heap.size+1,3,none⟩=some (.string t)∧w'.cell? ⟨w.heap.size+1,4,none⟩=some (Sn)∧w'.cell? ⟨w.heap.size+1,5,none⟩=some (Sn))) [1,3] (.take 0 (.take 1 (.take 2 (.take 3 (.ask 4 true (.ask 5 false (.ask 6 false (.ask 7 false .stop .stop) .stop) .stop) .stop))))) (by kernel_rfl) (by kernel_rfl) (fun _ d _ _ _ h=>by cases d <;> exact h) (CK.o _ bd) ?_
    have xi:=Hh (a.o.below bd);generalize wr.drew=wd at bd xi ⊢;clear cn ct;refine aF _ ?_ rfl rfl ?_ (fun K M=>?_);rotate_left;(intro w0;go_simp;(try rfl));(go_simp;refine M _ ?_;clear M K)
    refine aM _ ?_ rfl rfl (by decide) ?_ (fun K M=>?_);rotate_left;(intro w0 x8;go_simp;(try rfl));(go_simp;refine M _ ?_;clear M K)
    refine aF _ ?_ rfl rfl ?_ (fun K M=>?_);rotate_left;(intro w0;go_simp;(try rfl));(go_simp;refine M _ ?_;clear M K)
    refine aM _ ?_ rfl rfl (by decide) ?_ (fun K M=>?_);rotate_left;(intro w0 x8;go_simp;(try rfl));(go_simp;refine M _ ?_;clear M K)
    refine aH _ rfl trivial ?_
    go_wp2_with (go_at_call 31;(with_reducible refine (CT.o _).mono ?_);rintro e w7 ⟨cy,rfl,xh,xe⟩;obtain ⟨b1,m1,n1,b2,m2,n2,rfl⟩:=oS xh)
    have f:=Hh (xi.o.below xe);refine Seg.mk ⟨CK.o _ (bd.trans (xe.mono bd.size)),?_⟩;have x5:=Hh xh;clear xe bd xi xh;refine aB _ rfl trivial ?_
    go_wp2
    refine Seg.mk ?_;have hq:∀q,q<6→∃u,w7.cell? ⟨g,j * 6+q,none⟩=some u:=fun q hq=>by
     have:=xx.o;rw [f.o.row.cellAt (j * 6+q) (by omega),Ac (by rw [iL L fun y hy=>(f.o.old y hy).len];omega)]
     exact ⟨_,rfl⟩
    obtain ⟨u0,q0⟩:=hq 0 (by decide)
    obtain ⟨u1,q1⟩:=hq 1 (by decide)
    obtain ⟨u2,q2⟩:=hq 2 (by decide)
    obtain ⟨u3,q3⟩:=hq 3 (by decide)
    obtain ⟨u4,q4⟩:=hq 4 (by decide)
    obtain ⟨u5,q5⟩:=hq 5 (by decide)
    rw [Nat.add_zero] at q0;have yb:=f.o.row.frozenAt (j * 6);have x6:=f.o.row.frozenAt (j * 6+1);have xz:=f.o.row.frozenAt (j * 6+2);have ya:=f.o.row.frozenAt (j * 6+3);have x9:=f.o.row.frozenAt (j * 6+4);have yf:=f.o.row.frozenAt (j * 6+5);have ye:=Hh (f.o.set xx.o (fun S w'=>(aCv (x5.o))))
    clear hq f;refine aB _ rfl trivial ?_
    go_wp2
    clear q0 q1 q2 q3 q4 q5 yb x6 xz ya x9 yf;refine Seg.mk ?_;refine bQ _ rfl trivial ?_
    go_wp2
    go_roundw
    case rel=>exact ⟨j+1,_,by go_num,by have:=I.o;omega,ye.o,by rw [List.length_set];exact xf.o,.inr ⟨by have:=HZ.o;omega,rfl,by rw [wW,D.o,HZ.o]⟩⟩
    case measure=>have:=I.o;simp [intOf];omega
   ·have m:r ≠ s:=fun e=>by
     have T:=xq.o;rw [e] at T;have h2:=(List.getElem?_inj (by omega) HX.o.nodup).1 (T.trans H0.o.symm)
     omega
    have e1:(r.toList == s.toList)=false:=jE m;have D:=Hh c;clear m c
    go_wp2
    go_roundw
    case rel=>exact ⟨j+1,L,by go_num,by have:=I.o;omega,a.o,xf.o,.inr ⟨by omega,rfl,D.o⟩⟩
    case measure=>have:=I.o;simp [intOf];omega
  ·have xy:¬ (j:Int)<(x.names.length:Int):=by omega
   rcases P with ⟨X,rfl,c⟩ | ⟨X,rfl,c⟩
   ·have:=dT H0.o
    omega
   ·have Q:=a.o.node
    have V9:=Hh (jF _ _ wr Q (fun b q=>q.2) (fK (by rw [c];exact aHi xs.o)) (HT.o.below a.o.bel))
    rw [c] at V9;have D:=Hh c;have cn:=aA a.o.nod;obtain ⟨Li,xm⟩:∃n,n=L.length:=⟨_,rfl⟩;have xv:=Hh xm;have U:=a.o;rw [←xm] at V9 cn;clear c Q U xm;have N:wr.heap[w.heap.size+1+1]?=some (.cells Z6 28 (0,0)):=a.o.res;obtain ⟨gr,H⟩:∃g,g=w.heap.size+1+1:=⟨_,rfl⟩;rw [←H] at N;rw [←H];have Z:=Hh N;have xu:=Hh H;clear N H;cases hyv:aC 8 (.mk 5 false 0 ⟨#[]⟩ x.names (x.items.set i (tN t))) with
    | true=>
     have xg:=Hh hyv;rw [hyv] at V9;clear hyv
     go_upto_region 15 with ((with_reducible refine (V9.o).mono ?_);rintro e w9 ⟨rfl,p⟩;(have l:=(p.block _ (Aa Z.o)).trans Z.o);(have f9:=aE l);(have c9:=aA l);(have k9:=(p.block _ (Aa a.o.nod)).trans a.o.nod);(rw [←xv.o] at k9);(have d9:=aA k9);clear k9)
     have xk:=Hh l;have V:=Hh (a.o.below p);clear V9 cn p l
     go_wp2
     refine aT (v:=Iz 0) xk.o results14 rfl rfl rfl ?_;have H:=xu.o;have F:=V.o.bel;have hN:=V.o.node;rw [D.o] at hN;rw [xv.o];exact .inl ⟨xg.o,_,_,rfl,(hN.same fun b q=>(aO w9 gr _ _ _ _ _ _).block b q.2 (by intro e;have:=Ab e;have:=q.1;omega)).mono fun b q=>⟨by have:=q.1;omega,Ll q.2 (aO w9 gr _ _ _ _ _ _).size⟩,F.grown (aO w9 gr _ _ _ _ _ _) F.size fun k hk=>by have:=Ab (show some gr=some k from hk);omega⟩
    | false=>
     have xg:=Hh hyv;rw [hyv] at V9;clear hyv
     go_upto_region 14 with ((with_reducible refine (V9.o).mono ?_);rintro e w9 ⟨rfl,p⟩)
     have l:=(p.block _ (Aa Z.o)).trans Z.o;have f9:=aE l;have c9:=aA l;have xk:=Hh l;have V:=Hh (a.o.below p);clear V9 cn p l
     go_wp2
     refine aT (v:=Iz 1) xk.o results14 rfl rfl rfl ?_;have H:=xu.o;have F:=V.o.bel;exact .inr ⟨xg.o,rfl,F.grown (aO w9 gr _ _ _ _ _ _) F.size fun k hk=>by have:=Ab (show some gr=some k from hk);omega⟩
end Go.Proofs.YtncdpanfefnjlaaGreatDoor