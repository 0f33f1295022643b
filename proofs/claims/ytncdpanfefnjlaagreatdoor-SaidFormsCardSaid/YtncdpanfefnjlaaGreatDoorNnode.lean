import Derived.Test.YtncdpanfefnjlaaGreatDoorNnam
set_option linter.unusedVariables false
set_option linter.unusedSimpArgs false
set_option maxHeartbeats 3200000
set_option maxRecDepth 100000
namespace Go.Proofs.YtncdpanfefnjlaaGreatDoor
open Go.Proofs.Tryz
open Go.ChangeShapes Go.WideShapes Go.ChangeAt Go.RowKit
def aDd:List Int:=[0,1,23,24,127,128,255,256,65535,65536,4294967296,9223372036854775807]
theorem aDc:∀j,j<12→∃z:Int,aDd[j]?=some z∧0≤z∧z≤9223372036854775807:=by
 have:∀j:Fin 12,∃z:Int,aDd[j.1]?=some z∧0≤z∧z≤9223372036854775807:=by
  intro j
  match j with
  | ⟨0,_⟩ | ⟨1,_⟩ | ⟨2,_⟩ | ⟨3,_⟩ | ⟨4,_⟩ | ⟨5,_⟩ | ⟨6,_⟩ | ⟨7,_⟩ | ⟨8,_⟩ | ⟨9,_⟩ | ⟨10,_⟩ | ⟨11,_⟩=>exact ⟨_,rfl,by decide,by decide⟩
 exact fun j a=>this ⟨j,a⟩
theorem RK (B g n:Nat) (w:World) (hn:1≤n) (qm:n<100) (hd:bG B w g)
 (KN:2≤n→∀M:World,bG B M g→Calls prog 20 #[.pointer (some ⟨g,0,none⟩),Iz ((n:Int) - 1)] M fun e w'=>pU (n - 1) M e w'∧M.grownBy w' (some g)∧bG B w' g) :
 Calls prog 20 #[.pointer (some ⟨g,0,none⟩),Iz n] w fun e w'=>pU n w e w'∧w.grownBy w' (some g)∧bG B w' g:=by
 have N6:=Hh (fun (M:World) (hx:bG B M g)=>jG B g 6 6 rfl M (by decide) (by decide) hx)
 have N2:=Hh (fun (M:World) (hx:bG B M g)=>jG B g 2 2 rfl M (by decide) (by decide) hx)
 have v6:=Hh (fun (M:World) (hx:bG B M g)=>jG B g 12 12 rfl M (by decide) (by decide) hx)
 have N4:=Hh (fun (M:World) (hx:bG B M g)=>jG B g 4 4 rfl M (by decide) (by decide) hx)
 have pf:=Hh (fun (M:World) (hx:bG B M g)=>jG B g 20 20 rfl M (by decide) (by decide) hx)
 have N3:=Hh (fun (M:World) (hx:bG B M g)=>jG B g 3 3 rfl M (by decide) (by decide) hx)
 have KT:=Hh (fun (M:World) (hx:bG B M g)=>YL B g M hx)
 have vf:=Hh KN;have xx:=hd.lt;obtain ⟨z1,xo⟩:∃o,o=Obj.cells Z6 28 (0,0):=⟨_,rfl⟩;have zg:=Hn w z1;have xt:bG B (w.alloc z1) g:=hd.go ((Br w.heap.size w).alloc (Lr _) z1);have zt:=dV w z1 (some g);rw [xo] at zg xt zt;clear KN hd xo
 go_enter func20,ntmps20
 go_upto_region 2 with ((with_reducible refine (N6.o _ xt).mono ?_);rintro e w1 ⟨⟨k,hk,rfl⟩,zp,V⟩)
 have J:=cP zp (by omega) zg
 have I:=aJ zt zp;clear zg zt zp xt
 by_cases qi:4≤k
 ·have e1:((k:Int) == 1)=false:=by simp;omega
  have e2:((k:Int) == 2)=false:=by simp;omega
  have e3:((k:Int) == 3)=false:=by simp;omega
  have yz:=Hn w1 (.cells #[Iz k,.bool false,Iz 0,.string ⟨#[]⟩,Sn,Sn] 28);have D:NSt 28 9 (n - 1) w (w1.alloc (.cells #[Iz k,.bool false,Iz 0,.string ⟨#[]⟩,Sn,Sn] 28)) g w1.heap.size (w1.alloc (.cells #[Iz k,.bool false,Iz 0,.string ⟨#[]⟩,Sn,Sn] 28)).heap.size k (Sn) (Sn) [] []:=
   NSt.begin ((Bj w1 _ _ (Aa J)).trans J) yz xx (Aa J) (aJ I (dV w1 _ _))
  have xa:bG B (w1.alloc (.cells #[Iz k,.bool false,Iz 0,.string ⟨#[]⟩,Sn,Sn] 28)) g:=V.go ((Br w1.heap.size w1).alloc (Lr _) _);obtain ⟨nb,xv⟩:∃nb,nb=w1.heap.size:=⟨_,rfl⟩;rw [←xv] at D;have y9:=Hh xv;clear yz J I V xv
  by_cases xl:k=5
  case' pos=>
   have e4:((k:Int) == 4)=false:=by simp;omega
   have e5:((k:Int) == 5)=true:=by simp;omega
  case' neg=>
   have e4:((k:Int) == 4)=true:=by simp;omega
   have e5:((k:Int) == 5)=false:=by simp;omega
  all_goals
   have u0:=Hh xl;clear xl
   go_upto_region 14 with fail
   by_cases qk:n=1
   ·have vk:(n:Int)<2:=by omega
    have f0:=aE D.nod;have c0:=aA D.nod;have f1:=aE D.res;have c1:=aA D.res;have zr:¬w.heap.size=w1.heap.size:=by have:=y9.o;have:=D.lo;omega
    have u6:¬w1.heap.size=w.heap.size:=fun e=>zr e.symm
    have r:=Hh D;have pd:=Hh xa;clear D xa
    go_wp2
    have xf:=r.o.done;have yi:=dG r.o.res (Iz k) (.bool false) (Iz 0) (.string ⟨#[]⟩) (Sn) (Sn);refine Au (v:=.agg #[Iz k,.bool false,Iz 0,.string ⟨#[]⟩,Sn,Sn]) ?_ ?_ ?_;rotate_left
    ·rfl
    ·rw [show n - 1+1=n by omega] at xf
     exact ⟨⟨_,_,rfl,xf.1,xL hn (by first | exact .inl ⟨by have:=u0.o;omega,rfl⟩ | exact .inr ⟨by have:=u0.o;omega,rfl,fun i s h=>(by simp at h)⟩) (by decide) (by simp [aG]) (by simp [aG,oD])⟩,xf.2.1,xf.2.2 B pd.o⟩
    ·obtain ⟨q0,q1,q2,q3,q4,q5⟩:=aA yi
     simp only [dJ] at q0 q1 q2 q3 q4 q5;simp [results,results20,go_sem,q0,q1,q2,q3,q4,q5]
   ·have vk:¬ (n:Int)<2:=by omega
    have pv:(2:Int)≤(n:Int):=by omega
    have pu:=Hh (vf.o (by omega))
    clear vf;obtain ⟨W2,zj⟩:∃W,W=w1.alloc (.cells #[Iz k,.bool false,Iz 0,.string ⟨#[]⟩,Sn,Sn] 28):=⟨_,rfl⟩;rw [←zj] at D xa;obtain ⟨C,hC⟩:∃C,C=W2.heap.size:=⟨_,rfl⟩;rw [←hC] at D;clear hC
    go_upto_region 15 with fail
    rw [←zj];rw [←y9.o];clear zj y9
    go_upto_region 18 with ((with_reducible refine (N4.o _ xa).mono ?_);rintro e w3 ⟨⟨i0,p9,rfl⟩,xk,x6⟩)
    have u4:=Hh (D.grown xk);have ve:=Hh x6;clear D xk x6 xa N4;obtain ⟨ip,uj,vp,xo,zh⟩:=rE;obtain ⟨iq,zu,ps,pq,pm⟩:=rD;have u3:=Hh uj;have v9:=Hh zu;clear uj zu;have ur:=underlying26;have vw:=underlying25
    go_loopw [8] (fun v wr=>∃ (m:Nat) (vi:Value) (A:List NC),v=Iz m∧A.length+m≤3∧NSt 28 9 (n - 1) w wr g nb C k (Sn) vi [] A∧(∀y,y ∈ A→gF (n - 1) y.2=true)∧bG B wr g) (fun v _=>(intOf v).toNat)
    case atStart=>exact ⟨i0,_,[],rfl,by simp;omega,u4.o,(fun y hy=>by simp at hy),ve.o⟩
    case round=>
     clear u4 ve;obtain ⟨m,vi,A,rfl,qc,f,hval,G⟩:=hrel
     by_cases hm:0<m
     ·have pi:(0:Int)<(m:Int):=by omega
      have HV:=Hh hval;have E:=f.below ((Br wr.heap.size wr).drew);have R:=G.go ((Br wr.heap.size wr).drew);have xc:=(aA E.nod).2.2.2.2.2;clear f G hval
      go_upto_region 20 with fail
      refine aI (fun w'=>w'.cell? ⟨nb,5,none⟩=some vi) [1] (.take 0 (.take 1 (.take 2 (.take 3 (.take 4 (.ask 5 true (.ask 6 true (.ask 7 false (.ask 8 false (.ask 9 false .stop .stop) .stop) .stop) .stop) .stop)))))) (by kernel_rfl) (by kernel_rfl) (fun _ d _ _ _ h=>by cases d <;> exact h) xc ?_
      generalize wr.drew=pc at E R xc ⊢;refine aF _ ?_ rfl rfl ?_ (fun K L=>?_);rotate_left;(intro w0;go_simp;(try rfl));(go_simp;refine L _ ?_;clear L K)
      refine aM _ ?_ rfl rfl (by decide) ?_ (fun K L=>?_);rotate_left;(intro w0 zy;go_simp;(try rfl));(go_simp;refine L _ ?_;clear L K)
      iterate 3 (refine aF _ ?_ rfl rfl ?_ (fun K L=>?_);rotate_left;(intro w0;go_simp;(try rfl));(go_simp;refine L _ ?_;clear L K))
      refine aH _ rfl trivial ?_
      go_wp2_with (go_at_call 20;(with_reducible refine (pu.o _ R).mono ?_);rintro e w6 ⟨⟨cs,x,rfl,xg,vu⟩,xr,F⟩)
      have c:=E.grown xr;have xq:=(aA c.nod).2.2.2.2.2;refine Seg.mk ⟨xq,?_⟩;have b7:=(Br w6.heap.size w6).alloc (o:=.cells cs.toArray 28) (Lr _);have l:=c.below b7;have S:=F.go b7;have yq:=E.fresh xg b7;have xm:=Hn w6 (.cells cs.toArray 28);have yd:=xg.one;obtain ⟨va,vb,zb⟩:=xg.form;rw [zb] at b7 l S yq xm yd;rw [zb];clear zb xg;refine aH _ rfl trivial ?_
      go_wp2_with fail
      generalize hW:w6.alloc (.cells #[Iz x.kind,.bool x.bool,Iz x.num,.string x.text,va,vb] 28)=W7 at b7 l S yq xm ⊢;have v5:=(aA l.nod).2.2.2.2.2;clear hW c xq E xc R F;refine Seg.mk ⟨v5,?_⟩;have x5:∀q u,([Value.int IntKind.i64 x.kind,.bool x.bool,Iz x.num,.string x.text,va,vb]:Vl)[q]?=some u→W7.cell? ((⟨w6.heap.size,0,none⟩:Addr).add q)=some u:=by
       intro q u hq;have:=cT _ xm rfl q u hq;rw [Bs,Ca];exact this
      have ya:=Hh x5;have uv:=Hh l.items.1;have xn:=l.lo.2.2.2;have uu:=Hh yd;have vt:=Hh yq;clear x5 xm yd yq;refine aB _ rfl trivial ?_
      go_wp2_with ((refine Ay _ rfl (.tmp 56) (.tmp 61) 26 rfl C 28 ip (.agg Z6) 6 88 ur u3.o vp xo zh rfl (by decide) vi A.length _ rfl uv.o ⟨w6.heap.size,0,none⟩ 1 1 [Iz x.kind,.bool x.bool,Iz x.num,.string x.text,va,vb] rfl rfl ya.o uu.o (by decide) (by unfold maxLen;omega) (by omega) xn _ rfl ?_);intro g8 c8 W8 U a xd yn)
      refine Seg.mk ?_;refine aB _ rfl trivial ?_
      go_wp2_with fail
      refine Seg.mk ?_;have Q:=l.item U a (fV xd) vt.o;have T:=l.dice (.inr rfl) S a 5 (.slice (some ⟨g8,0,none⟩) (A.length+1) c8);have X:=(l.apart (.inr rfl) a nb l.lo.2.2.1).trans l.nod;have yt:=aE X;have ys:=aA X;clear U a xd l S X uv ya xn;refine bQ _ rfl trivial ?_
      go_wp2_with fail
      generalize W8.setCell ⟨nb,5,none⟩ (.slice (some ⟨g8,0,none⟩) (A.length+1) c8)=w9 at Q T ⊢;clear yt ys
      go_wp2
      go_roundw
      case rel=>
       refine ⟨m - 1,_,_,by rw [show ((m - 1:Nat):Int)=(m:Int) - 1 by omega],?_,Q,?_,T⟩
       ·rw [Lg];show A.length+1+(m - 1)≤3;omega
       ·intro y hy
        rcases Bg.1 hy with hy | hy
        ·exact HV.o y hy
        ·cases At.1 hy;exact vu
      case measure=>simp [intOf];omega
     ·have pi:¬ (0:Int)<(m:Int):=by omega
      have p3:A.length≤3:=by omega
      have HV:=Hh hval;have xe:=Hh G;have r:=Hh f;have po:=FU (d:=n - 1) (its:=aG A) (fun y hy=>by
       obtain ⟨z,hz,rfl⟩:=Bp.1 hy;exact hval z hz) (by rw [aG,Bk];exact p3)
      have yx:Hid (A.length≤20∧oD (n - 1) (aG A)≤3 * (qQ (n - 1)+1)+25 * A.length):=Hh ⟨by omega,by omega⟩
      clear f G hval po
      go_upto_if 66 with ((with_reducible refine (pf.o _ xe.o).mono ?_);rintro e w4 ⟨⟨k2,za,rfl⟩,u2,xz⟩)
      have xj:=r.o.grown u2;clear r xe u2
      go_cut [] from 66 (fun M=>∃ (vi:Value) (A:List NC),(A.length≤20∧oD (n - 1) (aG A)≤3 * (qQ (n - 1)+1)+25 * A.length)∧NSt 28 9 (n - 1) w M g nb C k (Sn) vi [] A∧(∀y,y ∈ A→gF (n - 1) y.2=true)∧bG B M g)
      case first=>
       by_cases vd:k2=1
       ·have e6:((k2:Int) == 1)=true:=by simp;omega
        have r:=Hh xj;have yu:=Hh xz;clear xj xz vd
        go_wp2
        generalize Value.bool ((k2:Int) == 1)=vb
        go_loopw [] (fun wr=>∃ (vi:Value) (A:List NC),(A.length≤20∧oD (n - 1) (aG A)≤3 * (qQ (n - 1)+1)+25 * A.length)∧NSt 28 9 (n - 1) w wr g nb C k (Sn) vi [] A∧(∀y,y ∈ A→gF (n - 1) y.2=true)∧bG B wr g) (fun wr=>30 - UR wr nb 5)
        case atStart=>exact ⟨_,A,yx.o,r.o,HV.o,yu.o⟩
        case round=>
         clear r yu HV;obtain ⟨vi,A,⟨hA,xw⟩,f,hval,G⟩:=hrel;have yo:=Hh xw;clear xw;obtain ⟨ai,ci,rfl⟩:=f.viForm;have uk:=Hh f.len;have HV:=Hh hval;have E:=f.below ((Br wr.heap.size wr).drew);have R:=G.go ((Br wr.heap.size wr).drew);have xc:=(aA E.nod).2.2.2.2.2;have qb:(A.length:Int)≤20:=by omega
         clear f G hval
         go_upto_region 22 with fail
         refine aI (fun w'=>w'.cell? ⟨nb,5,none⟩=some (.slice ai A.length ci)) [1,2] (.take 0 (.take 1 (.take 2 (.take 3 (.ask 4 true (.take 5 (.ask 6 false .stop .stop)) .stop))))) (by kernel_rfl) (by kernel_rfl) (fun _ d _ _ _ h=>by cases d <;> exact h) xc ?_
         generalize wr.drew=pc at E R xc ⊢;refine aF _ ?_ rfl rfl ?_ (fun K L=>?_);rotate_left;(intro w0;go_simp;(try rfl));(go_simp;refine L _ ?_;clear L K)
         iterate 2 (refine aM _ ?_ rfl rfl (by decide) ?_ (fun K L=>?_);rotate_left;(intro w0 zy;go_simp;(try rfl));(go_simp;refine L _ ?_;clear L K))
         refine aF _ ?_ rfl rfl ?_ (fun K L=>?_);rotate_left;(intro w0;go_simp;(try rfl));(go_simp;refine L _ ?_;clear L K)
         refine aH _ rfl trivial ?_
         go_wp2_with (go_at_call 19;(with_reducible refine (N3.o _ R).mono ?_);rintro e w6 ⟨⟨k3,qd,rfl⟩,xr,F⟩)
         have c:=E.grown xr;have xq:=(aA c.nod).2.2.2.2.2;clear E R xc xr;refine Seg.mk ⟨xq,?_⟩;have uo:IntKind.i64.wrap (15+(k3:Int))=15+(k3:Int):=Cc _ (by omega)
         refine aF _ ?_ rfl rfl ?_ (fun K L=>?_);rotate_left;(intro w0;go_simp;(try rfl));(go_simp;refine L _ ?_;clear L K)
         clear uo
         by_cases yn:(A.length:Int)<15+(k3:Int)
         ·have ux:decide ((A.length:Int)<15+(k3:Int))=true:=by simpa using yn
          have b7:=(Br w6.heap.size w6).alloc (o:=.cells Z6 28) (Lr _);have l:=c.below b7;have S:=F.go b7;have xm:=Hn w6 (.cells Z6 28);obtain ⟨W7,hW⟩:∃W,W=w6.alloc (.cells Z6 28):=⟨_,rfl⟩;rw [←hW] at l S xm;have x5:∀q u,([Value.int IntKind.i64 0,.bool false,Iz 0,.string ⟨#[]⟩,Sn,Sn]:Vl)[q]?=some u→W7.cell? ((⟨w6.heap.size,0,none⟩:Addr).add q)=some u:=by
           intro q u hq;have:=cT _ xm rfl q u hq;rw [Bs,Ca];exact this
          have ya:=Hh x5;have um:=Hh l.items.1;have xn:=Hh l.lo.2.2.2;have xp:=Hh l;have un:=Hh S;have HW:=Hh hW;clear x5 xm l S b7 c F hW;rw [HW.o] at um ya xn;refine bQ _ rfl trivial ?_
          go_wp2_with ((refine Ay _ rfl (.tmp 75) (.tmp 77) 26 rfl C 28 ip (.agg Z6) 6 88 ur u3.o vp xo zh rfl (by decide) (.slice ai A.length ci) A.length _ rfl um.o ⟨w6.heap.size,0,none⟩ 1 1 [Value.int IntKind.i64 0,.bool false,Iz 0,.string ⟨#[]⟩,Sn,Sn] rfl rfl ya.o (by intro u hu;simp at hu;rcases hu with rfl | rfl | rfl | rfl | rfl <;> rfl) (by decide) (by unfold maxLen;omega) (by omega) xn.o _ rfl ?_);intro g8 c8 W8 U a xd p6;rw [←HW.o] at a xd;(have Q:=xp.o.item U a (fV xd) ((cJ _ _ 0 false 0 ⟨#[]⟩ (by decide)).deeper (by omega)));(have T:=xp.o.dice (.inr rfl) un.o a 5 (.slice (some ⟨g8,0,none⟩) (A.length+1) c8));(have X:=(xp.o.apart (.inr rfl) a nb xp.o.lo.2.2.1).trans xp.o.nod);(have yt:=aE X);(have ys:=aA X);clear U a xd X)
          generalize W8.setCell ⟨nb,5,none⟩ (.slice (some ⟨g8,0,none⟩) (A.length+1) c8)=w9 at Q T ⊢
          go_roundw
          case rel=>
           refine ⟨_,_,⟨by rw [Lg];show A.length+1≤20;omega,?_⟩,Q,?_,T⟩
           ·have xw:=yo.o
            rw [show aG (A++[(_,ND.mk 0 false 0 ⟨#[]⟩ [] [])])=aG A++[ND.mk 0 false 0 ⟨#[]⟩ [] []] by rw [aG,Ef];rfl,SX,Lg]
            have qg:bK (n - 1) (.mk 0 false 0 ⟨#[]⟩ [] [])≤24:=by
             obtain ⟨q,hq⟩:∃q,n - 1=q+1:=⟨n - 2,by omega⟩
             rw [hq];exact Lr _
            show _≤3 * (qQ (n - 1)+1)+25 * (A.length+1)
            omega
           intro y hy;rcases Bg.1 hy with hy | hy
           ·exact HV.o y hy
           ·cases At.1 hy
            exact kB (by omega) 0 false 0 ⟨#[]⟩ (by decide) (by decide) (by decide)
          case measure=>
           rw [Q.len,uk.o,Lg]
           show 30 - (A.length+1)<30 - A.length
           omega
         ·have ux:decide ((A.length:Int)<15+(k3:Int))=false:=by simpa using yn
          have r:=Hh c;have pb:=Hh F;clear c F xq;refine bQ _ rfl trivial ?_
          go_wp2
          go_meet
          exact ⟨_,A,⟨hA,yo.o⟩,r.o,HV.o,pb.o⟩
       ·have e6:((k2:Int) == 1)=false:=by simp;omega
        have r:=Hh xj;have yu:=Hh xz;clear xj xz vd
        go_wp2
        go_meet
        exact ⟨_,A,yx.o,r.o,HV.o,yu.o⟩
      case rest=>
       clear xj xz HV;obtain ⟨vi,A,⟨hA,xw⟩,f,hval,G⟩:=hcut;have yo:=Hh xw;clear xw;obtain ⟨ai,ci,rfl⟩:=f.viForm;have xc:=(aA f.nod).2.2.2.2.2;have r:=Hh f;have xe:=Hh G;have HV:=Hh hval;clear f G hval
       go_wp2
       go_loopw [9,83] (fun i9 i wr=>∃ (j:Nat) (vn:Value) (ns:List Bt),i=Iz j∧j≤A.length∧NSt 28 9 (n - 1) w wr g nb C k vn (.slice ai A.length ci) ns A∧(k=4→ns=[])∧(k=5→ns.length=j∧kL ns)∧bG B wr g) (fun _ i _=>A.length - (intOf i).toNat)
       case atStart=>exact ⟨0,_,[],rfl,Av _,r.o,fun _=>rfl,fun _=>⟨rfl,fun i s h=>by simp at h⟩,xe.o⟩
       case round=>
        clear r xe xc;obtain ⟨j,vn,ns,rfl,hj,f,yj,x9,G⟩:=hrel
        by_cases qo:j<A.length
        ·have uc:(j:Int)<(A.length:Int):=by omega
         by_cases xl:k=5
         ·(try (exfalso;rw [xl] at e5;exact absurd e5 (by decide)))
          all_goals
           obtain ⟨z3,ui⟩:=x9 xl;have vx:=Hh ui;have HK:=Hh xl;have Z:=f.below ((Br wr.heap.size wr).drew);have yg:=G.go ((Br wr.heap.size wr).drew);have vl:=(aA Z.nod).2.2.2.2.1;have p7:(j:Int)<20:=by omega
           have p2:(0:Int)≤(j:Int):=by omega
           clear yj x9 ui xl f G
           go_upto_region 28 with fail
           refine aI (fun w'=>w'.cell? ⟨nb,4,none⟩=some vn) [1] (.take 0 (.take 1 (.take 2 (.take 5 (.take 6 (.take 7 (.take 8 (.take 9 (.take 10 (.take 11 (.take 12 (eP.join true (.ask 3 true (.ask 4 true (.ask 13 true (.ask 14 true .stop .stop) .stop) (.ask 13 true (.ask 4 true (.ask 14 true .stop .stop) (.ask 14 true (.ask 4 true .stop .stop) .stop)) .stop)) (.ask 13 true (.ask 3 true (.ask 4 true (.ask 14 true .stop .stop) (.ask 14 true (.ask 4 true .stop .stop) .stop)) (.ask 14 true (.ask 3 true (.ask 4 true .stop .stop) .stop) .stop)) .stop)) (.take 15 (.ask 16 true (.ask 17 false (.ask 18 false (.ask 19 false .stop .stop) .stop) .stop) .stop)))))))))))))) (by kernel_rfl) (by kernel_rfl) (fun _ d _ _ _ h=>by cases d <;> exact h) vl ?_
           generalize wr.drew=wd at Z yg vl ⊢;refine aF _ ?_ rfl rfl ?_ (fun K L=>?_);rotate_left;(intro w0;go_simp;(try rfl));(go_simp;refine L _ ?_;clear L K)
           refine aM _ ?_ rfl rfl (by decide) ?_ (fun K L=>?_);rotate_left;(intro w0 zy;go_simp;(try rfl));(go_simp;refine L _ ?_;clear L K)
           iterate 9 (refine aF _ ?_ rfl rfl ?_ (fun K L=>?_);rotate_left;(intro w0;go_simp;(try rfl));(go_simp;refine L _ ?_;clear L K))
           obtain ⟨d0,xt⟩:∃d:Int,d=((UInt8.ofNat (48+j % 10)).toNat:Int):=⟨_,rfl⟩;obtain ⟨d1,V⟩:∃d:Int,d=((UInt8.ofNat (48+j / 10)).toNat:Int):=⟨_,rfl⟩;have zo:Hid ((lB j).map (fun b=>Value.int .u8 (b.toNat:Int))=[.int .u8 d0,.int .u8 d1]):=by
            show _=_
            rw [xt,V];rfl
           rw [show IntKind.u8.wrap (48+IntKind.u8.wrap ((j:Int).tmod 10))=d0 by rw [xt,Bb,Int.tmod_eq_emod_of_nonneg p2];simp only [Da];omega]
           rw [show IntKind.u8.wrap (48+IntKind.u8.wrap (IntKind.i64.wrap ((j:Int) / 10)))=d1 by rw [V,Bb,show IntKind.i64.wrap ((j:Int) / 10)=(j:Int) / 10 from Cc _ (by omega)];simp only [Da];omega]
           have u7:g<C:=by have:=Z.lo;omega
           clear xt V;refine dW [91,92,101,102] (fun vs M=>∃ (vg y0:Value) (s t:Bt),vs=[vg,.string s,y0,.string t]∧s.size≤1∧t.size=2∧wA j (s++t)∧NSt 28 9 (n - 1) w M g nb C k vn (.slice ai A.length ci) ns A∧bG B M g) ?_ ?_
           ·refine aH _ rfl ?_ ?_
            rotate_left
            ·have b1:=(Br wd.heap.size wd).alloc (o:=.cells #[.string ⟨#[97]⟩,.string ⟨#[98]⟩,.string ⟨#[118]⟩,.string ⟨#[100]⟩,.string ⟨#[]⟩] 9) (Lr _)
             have ye:=Z.below b1;have zc:=yg.go b1;have l1:=mH nmW (Hn wd (.cells #[.string ⟨#[97]⟩,.string ⟨#[98]⟩,.string ⟨#[118]⟩,.string ⟨#[100]⟩,.string ⟨#[]⟩] 9)) rfl;have n1:wd.heap.size ≠ g:=by have:=Z.lo;omega
             go_wp2_with fail
             generalize hW:wd.alloc (.cells #[.string ⟨#[97]⟩,.string ⟨#[98]⟩,.string ⟨#[118]⟩,.string ⟨#[100]⟩,.string ⟨#[]⟩] 9)=W1 at b1 ye zc l1 ⊢;clear hW;refine Seg.mk ⟨(aA ye.nod).2.2.2.2.1,?_⟩;refine aH _ rfl ?_ ?_;rotate_left
             ·have v7:=Hh (lT B g (wd.heap.size) 5 5 nmW W1 (by decide) (by decide) rfl l1 n1 zc)
              go_wp2_with (go_at_call 41;(with_reducible refine (v7.o).mono ?_);rintro e W2 ⟨⟨s2,uy,rfl⟩,O,p0⟩)
              have y6:=ye.grown O;refine Seg.mk ⟨(aA y6.nod).2.2.2.2.1,?_⟩;have b3:=(Br W2.heap.size W2).alloc (o:=.cells #[.int .u8 d0,.int .u8 d1] 5) (Lr _);have yl:=y6.below b3;have up:=p0.go b3;have o3:(W2.alloc (.cells #[.int .u8 d0,.int .u8 d1] 5)).ownsRow C 5 1 (.slice (some ⟨W2.heap.size,0,none⟩) 2 2) 2 ((lB j).map fun b=>Value.int .u8 (b.toNat:Int)):=by rw [zo.o];exact Ed W2 _ 2 y6.lo.2.2.2 (by decide) rfl
              refine aH _ rfl trivial ?_
              go_wp2_with fail
              generalize hW:W2.alloc (.cells #[.int .u8 d0,.int .u8 d1] 5)=W3 at b3 yl up o3 ⊢;clear hW;refine Seg.mk ⟨(aA yl.nod).2.2.2.2.1,?_⟩;have pr:=eA (P:=prog) W3 69 9 5 C 2 _ (lB j) o3 underlying69 underlying5 underlying9;refine aH _ rfl trivial ?_
              go_wp2_with fail
              clear pr;refine Seg.mk ⟨(aA yl.nod).2.2.2.2.1,?_⟩;exact aN [.slice (some ⟨wd.heap.size,0,none⟩) 5 5,.string s2,.slice (some ⟨W2.heap.size,0,none⟩) 2 2,.string ⟨(lB j).toArray⟩] ⟨_,_,s2,_,rfl,(rR s2 uy).1,rfl,⟨s2,uy,rfl⟩,yl,up⟩ rfl
             ·have b5:=(Br W1.heap.size W1).alloc (o:=.cells #[.int .u8 d0,.int .u8 d1] 5) (Lr _)
              have x7:=ye.below b5;have zm:=zc.go b5;have o5:(W1.alloc (.cells #[.int .u8 d0,.int .u8 d1] 5)).ownsRow C 5 1 (.slice (some ⟨W1.heap.size,0,none⟩) 2 2) 2 ((lB j).map fun b=>Value.int .u8 (b.toNat:Int)):=by rw [zo.o];exact Ed W1 _ 2 ye.lo.2.2.2 (by decide) rfl
              have l5:∀q s,nmW[q]?=some s→(W1.alloc (.cells #[.int .u8 d0,.int .u8 d1] 5)).cell? ⟨wd.heap.size,q,none⟩=some (.string s):=fun q s h=>(b5.cell (p:=⟨_,q,none⟩) (cD (l1 q s h))).trans (l1 q s h)
              refine aH _ rfl trivial ?_
              go_wp2_with fail
              generalize hW:W1.alloc (.cells #[.int .u8 d0,.int .u8 d1] 5)=W5 at b5 x7 zm o5 l5 ⊢;clear hW;refine Seg.mk ⟨(aA x7.nod).2.2.2.2.1,?_⟩;refine aH _ rfl ?_ ?_;rotate_left
              ·have p4:=Hh (lT B g (wd.heap.size) 5 5 nmW W5 (by decide) (by decide) rfl l5 n1 zm)
               go_wp2_with (go_at_call 41;(with_reducible refine (p4.o).mono ?_);rintro e W6 ⟨⟨s6,vc,rfl⟩,xr,pn⟩)
               have zf:=x7.grown xr;have o6:=iP o5 xr u7;refine Seg.mk ⟨(aA zf.nod).2.2.2.2.1,?_⟩;have px:=eA (P:=prog) W6 69 9 5 C 2 _ (lB j) o6 underlying69 underlying5 underlying9;refine aH _ rfl trivial ?_
               go_wp2_with fail
               clear px;refine Seg.mk ⟨(aA zf.nod).2.2.2.2.1,?_⟩;exact aN [.slice (some ⟨wd.heap.size,0,none⟩) 5 5,.string s6,.slice (some ⟨W1.heap.size,0,none⟩) 2 2,.string ⟨(lB j).toArray⟩] ⟨_,_,s6,_,rfl,(rR s6 vc).1,rfl,⟨s6,vc,rfl⟩,zf,pn⟩ rfl
              ·have vy:=eA (P:=prog) W5 69 9 5 C 2 _ (lB j) o5 underlying69 underlying5 underlying9
               refine aH _ rfl trivial ?_
               go_wp2_with fail
               clear vy;refine Seg.mk ⟨(aA x7.nod).2.2.2.2.1,?_⟩;have v8:=Hh (lT B g (wd.heap.size) 5 5 nmW W5 (by decide) (by decide) rfl l5 n1 zm)
               refine aH _ rfl trivial ?_
               go_wp2_with (go_at_call 41;(with_reducible refine (v8.o).mono ?_);rintro e W9 ⟨⟨s9,vm,rfl⟩,pp,pz⟩)
               have ua:=x7.grown pp;refine Seg.mk ⟨(aA ua.nod).2.2.2.2.1,?_⟩;exact aN [.slice (some ⟨wd.heap.size,0,none⟩) 5 5,.string s9,.slice (some ⟨W1.heap.size,0,none⟩) 2 2,.string ⟨(lB j).toArray⟩] ⟨_,_,s9,_,rfl,(rR s9 vm).1,rfl,⟨s9,vm,rfl⟩,ua,pz⟩ rfl
            ·have zd:=(Br wd.heap.size wd).alloc (o:=.cells #[.int .u8 d0,.int .u8 d1] 5) (Lr _)
             have Y:=Z.below zd;have yh:=yg.go zd;have zq:(wd.alloc (.cells #[.int .u8 d0,.int .u8 d1] 5)).ownsRow C 5 1 (.slice (some ⟨wd.heap.size,0,none⟩) 2 2) 2 ((lB j).map fun b=>Value.int .u8 (b.toNat:Int)):=by rw [zo.o];exact Ed wd _ 2 Z.lo.2.2.2 (by decide) rfl
             refine aH _ rfl trivial ?_
             go_wp2_with fail
             generalize hW:wd.alloc (.cells #[.int .u8 d0,.int .u8 d1] 5)=H at zd Y yh zq ⊢;clear hW;refine Seg.mk ⟨(aA Y.nod).2.2.2.2.1,?_⟩;refine aH _ rfl ?_ ?_;rotate_left
             ·have yp:=(Br H.heap.size H).alloc (o:=.cells #[.string ⟨#[97]⟩,.string ⟨#[98]⟩,.string ⟨#[118]⟩,.string ⟨#[100]⟩,.string ⟨#[]⟩] 9) (Lr _)
              have xi:=Y.below yp;have yc:=yh.go yp;have y5:=mH nmW (Hn H (.cells #[.string ⟨#[97]⟩,.string ⟨#[98]⟩,.string ⟨#[118]⟩,.string ⟨#[100]⟩,.string ⟨#[]⟩] 9)) rfl;have z7:H.heap.size ≠ g:=by have:=Y.lo;omega
              have zi:=fQ zq yp
              go_wp2_with fail
              generalize hW:H.alloc (.cells #[.string ⟨#[97]⟩,.string ⟨#[98]⟩,.string ⟨#[118]⟩,.string ⟨#[100]⟩,.string ⟨#[]⟩] 9)=y8 at yp xi yc y5 zi ⊢;clear hW;refine Seg.mk ⟨(aA xi.nod).2.2.2.2.1,?_⟩;refine aH _ rfl ?_ ?_;rotate_left
              ·have vr:=Hh (lT B g (H.heap.size) 5 5 nmW y8 (by decide) (by decide) rfl y5 z7 yc)
               go_wp2_with (go_at_call 41;(with_reducible refine (vr.o).mono ?_);rintro e v4 ⟨⟨ym,y4,rfl⟩,yv,u5⟩)
               have yb:=xi.grown yv;have ph:=iP zi yv u7;refine Seg.mk ⟨(aA yb.nod).2.2.2.2.1,?_⟩;have us:=eA (P:=prog) v4 69 9 5 C 2 _ (lB j) ph underlying69 underlying5 underlying9;refine aH _ rfl trivial ?_
               go_wp2_with fail
               clear us;refine Seg.mk ⟨(aA yb.nod).2.2.2.2.1,?_⟩;exact aN [.slice (some ⟨H.heap.size,0,none⟩) 5 5,.string ym,.slice (some ⟨wd.heap.size,0,none⟩) 2 2,.string ⟨(lB j).toArray⟩] ⟨_,_,ym,_,rfl,(rR ym y4).1,rfl,⟨ym,y4,rfl⟩,yb,u5⟩ rfl
              ·have zx:=eA (P:=prog) y8 69 9 5 C 2 _ (lB j) zi underlying69 underlying5 underlying9
               refine aH _ rfl trivial ?_
               go_wp2_with fail
               clear zx;refine Seg.mk ⟨(aA xi.nod).2.2.2.2.1,?_⟩;have zv:=Hh (lT B g (H.heap.size) 5 5 nmW y8 (by decide) (by decide) rfl y5 z7 yc)
               refine aH _ rfl trivial ?_
               go_wp2_with (go_at_call 41;(with_reducible refine (zv.o).mono ?_);rintro e qf ⟨⟨yk,y1,rfl⟩,ue,uw⟩)
               have yy:=xi.grown ue;refine Seg.mk ⟨(aA yy.nod).2.2.2.2.1,?_⟩;exact aN [.slice (some ⟨H.heap.size,0,none⟩) 5 5,.string yk,.slice (some ⟨wd.heap.size,0,none⟩) 2 2,.string ⟨(lB j).toArray⟩] ⟨_,_,yk,_,rfl,(rR yk y1).1,rfl,⟨yk,y1,rfl⟩,yy,uw⟩ rfl
             ·have ud:=eA (P:=prog) H 69 9 5 C 2 _ (lB j) zq underlying69 underlying5 underlying9
              refine aH _ rfl trivial ?_
              go_wp2_with fail
              clear ud;refine Seg.mk ⟨(aA Y.nod).2.2.2.2.1,?_⟩;have y7:=(Br H.heap.size H).alloc (o:=.cells #[.string ⟨#[97]⟩,.string ⟨#[98]⟩,.string ⟨#[118]⟩,.string ⟨#[100]⟩,.string ⟨#[]⟩] 9) (Lr _);have yf:=Y.below y7;have yw:=yh.go y7;have z4:=mH nmW (Hn H (.cells #[.string ⟨#[97]⟩,.string ⟨#[98]⟩,.string ⟨#[118]⟩,.string ⟨#[100]⟩,.string ⟨#[]⟩] 9)) rfl;have py:H.heap.size ≠ g:=by have:=Y.lo;omega
              refine aH _ rfl trivial ?_
              go_wp2_with fail
              generalize hW:H.alloc (.cells #[.string ⟨#[97]⟩,.string ⟨#[98]⟩,.string ⟨#[118]⟩,.string ⟨#[100]⟩,.string ⟨#[]⟩] 9)=p1 at y7 yf yw z4 ⊢;clear hW;refine Seg.mk ⟨(aA yf.nod).2.2.2.2.1,?_⟩;have vh:=Hh (lT B g (H.heap.size) 5 5 nmW p1 (by decide) (by decide) rfl z4 py yw)
              refine aH _ rfl trivial ?_
              go_wp2_with (go_at_call 41;(with_reducible refine (vh.o).mono ?_);rintro e p8 ⟨⟨yr,y3,rfl⟩,ug,vo⟩)
              have y2:=yf.grown ug;refine Seg.mk ⟨(aA y2.nod).2.2.2.2.1,?_⟩;exact aN [.slice (some ⟨H.heap.size,0,none⟩) 5 5,.string yr,.slice (some ⟨wd.heap.size,0,none⟩) 2 2,.string ⟨(lB j).toArray⟩] ⟨_,_,yr,_,rfl,(rR yr y3).1,rfl,⟨yr,y3,rfl⟩,y2,vo⟩ rfl
           ·rintro vs w5 ⟨vg,y0,s,t,rfl,qj,qn,xy,E,R⟩
            simp only [gJ,Act.put,Aq,Az,Ba];have ut:¬9223372036854775807<s.size+2:=by omega
            have c:=E.below ((Br w5.heap.size w5).alloc (o:=.cells #[.string (s++t)] 9) (Lr _));have F:=R.go ((Br w5.heap.size w5).alloc (o:=.cells #[.string (s++t)] 9) (Lr _));have ze:=Hn w5 (.cells #[.string (s++t)] 9);have uh:(s++t).size≤maxLen - 2:=by rw [Cq];unfold maxLen;omega
            have pl:=Hh uh;have vz:=Hh xy;clear uh xy;refine aF _ ?_ rfl rfl ?_ (fun K L=>?_);rotate_left;(intro w0;go_simp;(try rfl));(go_simp;refine L _ ?_;clear L K)
            clear ut;refine aH _ rfl trivial ?_
            go_wp2_with fail
            generalize hW:w5.alloc (.cells #[.string (s++t)] 9)=w6 at c F ze ⊢;clear hW;have xq:=(aA c.nod).2.2.2.2.1;refine Seg.mk ⟨xq,?_⟩;have z6:∀q u,([Value.string (s++t)]:Vl)[q]?=some u→w6.cell? ((⟨w5.heap.size,0,none⟩:Addr).add q)=some u:=by
             intro q u hq;have:=cT [Value.string (s++t)] ze rfl q u hq;rw [Bs,Ca];exact this
            have vq:=Hh z6;have HO:=Hh c.names.1;have zz:=c.lo.2.2.2;have vj:=Hh z3;have pg:ns.length<20:=by omega
            clear z6 ze z3;refine aB _ rfl trivial ?_
            go_wp2_with ((refine Ay _ rfl (.tmp 89) (.tmp 104) 25 rfl C 9 iq (.string ⟨#[]⟩) 1 16 vw v9.o ps pq pm rfl (by decide) vn ns.length _ rfl HO.o ⟨w5.heap.size,0,none⟩ 1 1 [.string (s++t)] rfl rfl vq.o (by intro u hu;simp at hu;subst hu;rfl) (by decide) (by unfold maxLen;omega) (by omega) zz _ rfl ?_);intro gg cc W7 U a xd yn)
            refine Seg.mk ?_;refine aB _ rfl trivial ?_
            go_wp2_with fail
            refine Seg.mk ?_;have Q:=c.name U a (fV xd) pl.o;have T:=c.dice (.inl rfl) F a 4 (.slice (some ⟨gg,0,none⟩) (ns.length+1) cc);have X:=(c.apart (.inl rfl) a nb c.lo.2.2.1).trans c.nod;have yt:=aE X;have ys:=aA X;clear U a xd c F X HO vq zz;refine bQ _ rfl trivial ?_
            go_wp2_with fail
            generalize W7.setCell ⟨nb,4,none⟩ (.slice (some ⟨gg,0,none⟩) (ns.length+1) cc)=w9 at Q T ⊢;clear yt ys
            go_wp2
            go_roundw
            case rel=>
             refine ⟨j+1,_,_,by go_num,by omega,Q,fun h4=>?_,fun _=>⟨by rw [Lg,vj.o];rfl,vx.o.push (by rw [vj.o];exact vz.o)⟩,T⟩
             have:=HK.o;omega
            case measure=>simp [intOf];omega
         ·have xh:k=4:=by omega
          (try (exfalso;rw [xh] at e5;exact absurd e5 (by decide)))
          all_goals
           have zn:=Hh (yj xh);have r:=Hh f;have xe:=Hh G;have HK:=Hh xh;clear yj x9 f G xh xl
           go_wp2
           go_roundw
           case rel=>exact ⟨j+1,_,_,by go_num,by omega,r.o,fun _=>zn.o,fun h5=>absurd h5 (by have:=HK.o;omega),xe.o⟩
           case measure=>simp [intOf];omega
        ·obtain ⟨an,z0,pt⟩:=f.vnForm
         subst pt;generalize uq:ns.length=LL at f;have qe:=Hh uq;have z8:j=A.length:=by omega
         have pe:=Hh z8;have zn:=Hh yj;have pa:=Hh x9;have uc:¬ (j:Int)<(A.length:Int):=by omega
         have f0:=aE f.nod;have c0:=aA f.nod;have f1:=aE f.res;have c1:=aA f.res;have zr:¬w.heap.size=nb:=by have:=f.lo;omega
         have u6:¬nb=w.heap.size:=fun e=>zr e.symm
         have r:=Hh f;have xe:=Hh G;clear f G uq z8 yj x9
         go_wp2
         have xf:=r.o.done;have yi:=dG r.o.res (Iz k) (.bool false) (Iz 0) (.string ⟨#[]⟩) (.slice an LL z0) (.slice ai A.length ci);refine Au (v:=.agg #[Iz k,.bool false,Iz 0,.string ⟨#[]⟩,.slice an LL z0,.slice ai A.length ci]) ?_ ?_ ?_;rotate_left
         ·rfl
         ·rw [show n - 1+1=n by omega] at xf
          have ub:(aG A).length=A.length:=by simp [aG]
          refine ⟨⟨_,_,rfl,xf.1,xL hn ?_ (by omega) ?_ (by rw [ub];exact yo.o)⟩,xf.2.1,xf.2.2 B xe.o⟩
          ·rcases Cf k 5 with h | h
           ·exact .inl ⟨by omega,zn.o (by omega)⟩
           ·have:=pa.o (by omega)
            exact .inr ⟨by omega,by rw [ub,this.1,pe.o],this.2⟩
          ·intro y hy
           obtain ⟨z,hz,rfl⟩:=Bp.1 hy;exact HV.o z hz
         ·obtain ⟨q0,q1,q2,q3,q4,q5⟩:=aA yi
          simp only [dJ] at q0 q1 q2 q3 q4 q5;simp [results,results20,go_sem,q0,q1,q2,q3,q4,q5]
 ·obtain rfl | rfl | rfl | rfl:k=0∨k=1∨k=2∨k=3:=by omega
  ·have f1:=aE J
   have c1:=aA J;have HR:=Hh J;have HG:=Hh I;have HD:=Hh V;clear J I V
   go_wp2
   refine Au (v:=.agg Z6) ?_ ?_ ?_;rotate_left
   ·rfl
   ·exact mX hn xx HG.o HD.o 0 false 0 ⟨#[]⟩ (by decide) (kB hn _ _ _ _ (by decide) (by decide) (by decide))
   ·obtain ⟨q0,q1,q2,q3,q4,q5⟩:=aA (dG HR.o (Iz 0) (.bool false) (Iz 0) (.string ⟨#[]⟩) (Sn) (Sn))
    simp only [dJ] at q0 q1 q2 q3 q4 q5;simp [results,results20,go_sem,q0,q1,q2,q3,q4,q5]
  ·go_upto_region 3 with fail
   have HR:=Hh J;have HG:=Hh I;clear J I
   go_wp2_with (go_at_call 19;(with_reducible refine (N2.o _ V).mono ?_);rintro e w2 ⟨⟨k2,za,rfl⟩,O,xa⟩;(have N:=cP O (by omega) HR.o);(have f2:=aE N);(have c2:=aA N);clear N)
   have N:=cP O (by omega) HR.o
   have xb:=aJ HG.o O;have xu:∀b,fC (.mk 1 b 0 ⟨#[]⟩ [] [])=true:=by decide
   refine Au (v:=.agg #[Iz 1,.bool ((k2:Int) == 1),Iz 0,.string ⟨#[]⟩,Sn,Sn]) ?_ ?_ ?_;rotate_left
   ·rfl
   ·exact mX hn xx xb xa 1 ((k2:Int) == 1) 0 ⟨#[]⟩ (by decide) (kB hn _ _ _ _ (xu _) (by decide) (by decide))
   ·obtain ⟨q0,q1,q2,q3,q4,q5⟩:=aA (dG N (Iz 1) (.bool ((k2:Int) == 1)) (Iz 0) (.string ⟨#[]⟩) (Sn) (Sn))
    simp only [dJ] at q0 q1 q2 q3 q4 q5;simp [results,results20,go_sem,q0,q1,q2,q3,q4,q5]
  ·have HR:=Hh J
   have HG:=Hh I;have xv:=Hn w1 (.cells #[Iz 0,Iz 1,Iz 23,Iz 24,Iz 127,Iz 128,Iz 255,Iz 256,Iz 65535,Iz 65536,Iz 4294967296,Iz 9223372036854775807] 3);have z5:=V.go ((Br w1.heap.size w1).alloc (o:=.cells #[Iz 0,Iz 1,Iz 23,Iz 24,Iz 127,Iz 128,Iz 255,Iz 256,Iz 65535,Iz 65536,Iz 4294967296,Iz 9223372036854775807] 3) (Lr _));have uz:=aJ I (dV w1 (.cells #[Iz 0,Iz 1,Iz 23,Iz 24,Iz 127,Iz 128,Iz 255,Iz 256,Iz 65535,Iz 65536,Iz 4294967296,Iz 9223372036854775807] 3) (some g));have zw:=(Bj w1 (.cells #[Iz 0,Iz 1,Iz 23,Iz 24,Iz 127,Iz 128,Iz 255,Iz 256,Iz 65535,Iz 65536,Iz 4294967296,Iz 9223372036854775807] 3) _ (Aa J)).trans J;have p5:g ≠ w1.heap.size:=by have:=Aa J;omega
   have vv:=Hh zw;have pw:=Hh uz;have ul:=Hh xv;have pk:=Hh z5;clear J I V xv z5 uz zw
   go_upto_region 7 with ((with_reducible refine (v6.o _ pk.o).mono ?_);rintro e w2 ⟨⟨k2,za,rfl⟩,O,xa⟩;go_loud ((have z9:=cP O (by omega) ul.o);(obtain ⟨z,xo,zh,qh⟩:=aDc k2 za);(have ql:(k2:Int)<12:=by omega);(have qa:(0:Int)≤(k2:Int):=by omega);(have zl:w2.cell? ⟨w1.heap.size,k2,none⟩=some (Iz z):=cT (aDd.map fun z=>Iz z) z9 rfl k2 _ (by rw [Be,xo];rfl));clear z9 xo))
   have N:=cP O (by omega) vv.o
   have xb:=aJ pw.o O;have zk:=Hh N;have uf:=Hh xb;clear N xb O zl;have xu:∀z:Int,fC (.mk 2 false z ⟨#[]⟩ [] [])=true:=by
    intro z;unfold fC;simp [ND.kind,ND.bool,ND.num,ND.text,ND.items,ND.names]
    decide
   have u9:=Hh xu;clear xu
   go_wp2_with (go_at_call 19;(with_reducible refine (N2.o _ xa).mono ?_);rintro e w3 ⟨⟨k4,xh,rfl⟩,xk,x6⟩;(have xs:=cP xk (by omega) zk.o);(have f3:=aE xs);(have c3:=aA xs);clear xs)
   ·have xs:=cP xk (by omega) zk.o
    have x8:=aJ uf.o xk;refine Au (v:=.agg #[Iz 2,.bool false,Iz (-1 - z),.string ⟨#[]⟩,Sn,Sn]) ?_ ?_ ?_;rotate_left
    ·rfl
    ·exact mX hn xx x8 x6 2 false (-1 - z) ⟨#[]⟩ (by decide) (kB hn _ _ _ _ (u9.o _) (KO (by omega) (by omega)) (by decide))
    ·obtain ⟨q0,q1,q2,q3,q4,q5⟩:=aA (dG xs (Iz 2) (.bool false) (Iz (-1 - z)) (.string ⟨#[]⟩) (Sn) (Sn))
     simp only [dJ] at q0 q1 q2 q3 q4 q5;simp [results,results20,go_sem,q0,q1,q2,q3,q4,q5]
   ·have xs:=cP xk (by omega) zk.o
    have x8:=aJ uf.o xk;refine Au (v:=.agg #[Iz 2,.bool false,Iz z,.string ⟨#[]⟩,Sn,Sn]) ?_ ?_ ?_;rotate_left
    ·rfl
    ·exact mX hn xx x8 x6 2 false z ⟨#[]⟩ (by decide) (kB hn _ _ _ _ (u9.o _) (KO (by omega) (by omega)) (by decide))
    ·obtain ⟨q0,q1,q2,q3,q4,q5⟩:=aA (dG xs (Iz 2) (.bool false) (Iz z) (.string ⟨#[]⟩) (Sn) (Sn))
     simp only [dJ] at q0 q1 q2 q3 q4 q5;simp [results,results20,go_sem,q0,q1,q2,q3,q4,q5]
  ·go_upto_region 3 with fail
   have HR:=Hh J;have HG:=Hh I;clear J I
   go_wp2_with (go_at_call 40;(with_reducible refine (KT.o _ V).mono ?_);rintro e w2 ⟨⟨s,hs,z2,rfl⟩,O,xa⟩;(have N:=cP O (by omega) HR.o);(have f2:=aE N);(have c2:=aA N);(have u1:=Hh z2);(have pj:=Hh hs);clear N z2 hs)
   have N:=cP O (by omega) HR.o
   have xb:=aJ HG.o O;have xu:fC (.mk 3 false 0 s [] [])=true:=by
    unfold fC;simp [ND.kind,ND.bool,ND.num,ND.text,ND.items,ND.names,pj.o]
   refine Au (v:=.agg #[Iz 3,.bool false,Iz 0,.string s,Sn,Sn]) ?_ ?_ ?_;rotate_left
   ·rfl
   ·exact mX hn xx xb xa 3 false 0 s (by have:=u1.o;unfold maxLen;omega) (kB hn _ _ _ _ xu (by decide) u1.o)
   ·obtain ⟨q0,q1,q2,q3,q4,q5⟩:=aA (dG N (Iz 3) (.bool false) (Iz 0) (.string s) (Sn) (Sn))
    simp only [dJ] at q0 q1 q2 q3 q4 q5;simp [results,results20,go_sem,q0,q1,q2,q3,q4,q5]
end Go.Proofs.YtncdpanfefnjlaaGreatDoor