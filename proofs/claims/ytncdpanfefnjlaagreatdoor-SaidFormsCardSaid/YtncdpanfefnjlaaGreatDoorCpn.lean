import Derived.Test.YtncdpanfefnjlaaGreatDoorCpi
set_option linter.unusedVariables false
set_option linter.unusedSimpArgs false
set_option maxHeartbeats 12800000
set_option maxRecDepth 100000
namespace Go.Proofs.YtncdpanfefnjlaaGreatDoor
open Go.Proofs.Tryz
open Go Go.Maps Go.ChangeShapes Go.WideShapes Go.ChangeAt Go.RowKit
theorem GM {d:Nat} {y:ND} (h:aC (d+1) y=true) (a:fZ y=7):oF 7 (gL y)=some y∧nD d y=[]:=by
 have c:=iF h;obtain ⟨k,b,n,g,ns,its⟩:=y;unfold nd0 at c;simp only [ND.mk.injEq,ND.kind,ND.bool,ND.num,ND.text,ND.names,ND.items] at *;rcases c with ⟨rfl,rfl,rfl,rfl,rfl,rfl⟩ | ⟨rfl,-,rfl,rfl,rfl,rfl⟩ | ⟨rfl,rfl,-,rfl,rfl,rfl⟩ | ⟨rfl,rfl,rfl,-,rfl,rfl⟩ | ⟨rfl,rfl,rfl,rfl,rfl,-⟩ | ⟨⟨rfl,rfl,rfl,rfl,-,-⟩,f⟩
 ·exact ⟨rfl,rfl⟩
 ·cases b <;> exact ⟨rfl,rfl⟩
 ·exfalso
  unfold fZ at a;simp [ND.kind,ND.num] at a
  by_cases e:n<0
  ·simp [e] at a
  ·simp [e] at a
 ·exfalso;revert a;simp [fZ,ND.kind]
 ·exfalso;revert a;simp [fZ,ND.kind]
 ·exfalso;revert a;simp [fZ,ND.kind]
theorem aJw {d:Nat} {y:ND} (h:aC (d+1) y=true) (a:aP (d+1) y=true):fZ y=7∨fZ y=0∨fZ y=1∨fZ y=3∨fZ y=4∨fZ y=5:=by
 rcases kF h a with ⟨c1,-⟩ | ⟨c1,-⟩ | ⟨c1,-⟩ | ⟨c1,-⟩ | ⟨c1,-⟩ | ⟨c1,-⟩ <;> omega
theorem DS (z:Int):dD (IntKind.i64.wrap z)=true:=by
 unfold dD;rw [An,As,As,IntKind.wrap_i64];omega
theorem iT {V:ND→Ub→Prop} {d g l:Nat} {r c:Ub} {w f:World} (k:Int) (b:Bool) (z:Int) (t:Bt) (e:Bool) (u:PrC f g l c) (n:w.grownBy f (some g)) (i:g<w.heap.size) (o:c.length≤r.length) (h:e=true→c.length<r.length) (s:t.size≤maxLen - 2) (m:dD z=true)
 (p:∀y j,V y j→e=true∧(.mk k b z t [] [])=y∧c=j) :
 JU V d g l r w (.returned (.tuple #[.agg #[Iz k,.bool b,Iz z,.string t,Sn,Sn],.bool e])) (dJ f w.heap.size (Iz k) (.bool b) (Iz z) (.string t) (Sn) (Sn)):=by
 have a:=aO f w.heap.size (Iz k) (.bool b) (Iz z) (.string t) (Sn) (Sn);exact ⟨[Iz k,.bool b,Iz z,.string t,Sn,Sn],_,e,c,rfl,(cJ _ _ k b z t s).deeper (by omega),u.kept a i,gO n a (Lr _),o,h,⟨⟨by simp [ND.items],fun y q=>by simp [ND.items] at q⟩,by unfold aP;show (dD z && _)=true;rw [m];rfl⟩,p⟩
theorem FW {V:ND→Ub→Prop} {d g p:Nat} {r:Ub} {w q c:World} {x:ND} {l:Bool} {f:Ub} {i k:Option Addr} {j c1 h c2:Nat}
 (u:aD (d+1) (fun b=>q.heap.size≤b∧b<c.heap.size) c (Nc x i j c1 k h c2) x) (C:w.heap.size<q.heap.size) (z:PrC c g p f) (v:w.grownBy c (some g)) (n:g<w.heap.size) (A:f.length≤r.length) (m:l=true→f.length<r.length) (B:iM (d+1) x∧aP (d+1) x=true) (s:∀y t,V y t→l=true∧x=y∧f=t) :
 JU V d g p r w (.returned (.tuple #[.agg (Na x i j c1 k h c2),.bool l])) (dJ c w.heap.size (Iz x.kind) (.bool x.bool) (Iz x.num) (.string x.text) (.slice i j c1) (.slice k h c2)):=by
 have a:=aO c w.heap.size (Iz x.kind) (.bool x.bool) (Iz x.num) (.string x.text) (.slice i j c1) (.slice k h c2);refine ⟨(Nc x i j c1 k h c2),x,l,f,rfl,?_,z.kept a n,gO v a (Lr _),A,m,B,s⟩;exact (u.same fun b o=>a.block b o.2 (by intro e;have:=Ab e;omega)).mono fun b o=>⟨by omega,Ll o.2 a.size⟩
theorem NY:pZ 0:=by
 intro g Q r w h W;have D:=h.lt;have z:=(Br w.heap.size w).alloc (o:=.cells Z6 28) (Lr _);have E:=h.below z;have k:=Hn w (.cells Z6 28);have q:=dV w (.cells Z6 28) (some g);have s:w.heap.size<(w.alloc (.cells Z6 28)).heap.size:=by simp
 have H:=Hh (fun (I:World) (S:PrC I g Q r)=>IY I S (by omega))
 clear h z
 go_enter func148,ntmps148
 go_upto_region 1 with fail
 generalize w.alloc (.cells Z6 28)=Z at E k q s ⊢;have L:=Hh k;have N:=Hh q;clear k q
 go_upto_region 2 with ((with_reducible refine (H.o _ E).mono ?_);rintro e a ⟨m,n,R,O,rfl,B,c,Y,X,u,d,K⟩)
 have C:=(Br a.heap.size a).alloc (o:=.cells #[Iz (m:Int),.int .u64 (n:Int)] 214) (Lr _);have j:=B.below C;have x:=Hn a (.cells #[Iz (m:Int),.int .u64 (n:Int)] 214);have i:=aJ (aJ N.o c) (dV a (.cells #[Iz (m:Int),.int .u64 (n:Int)] 214) (some g));have p:=cP c (by omega) L.o
 have l:=(C.block _ (Aa p)).trans p;have F:w.heap.size<a.heap.size:=Ll s c.size;have A:a.heap.size<(a.alloc (.cells #[Iz (m:Int),.int .u64 (n:Int)] 214)).heap.size:=by simp
 generalize a.alloc (.cells #[Iz (m:Int),.int .u64 (n:Int)] 214)=U at j x i l A ⊢;obtain ⟨b,M⟩:∃b,b=a.heap.size:=⟨_,rfl⟩;rw [←M] at x F A ⊢;have G:=Hh (Ai j i);have V:=Hh x;have f:=Hh l;have HI:=Hh K;have HL:=Hh (Ai u d);have J:O.length≤100000:=by omega
 have c2:=eJ x;clear M j i x K u d p l B c C H L N E a s;have T:=aE f.o;have e2:=aA f.o;cases R
 all_goals
  go_wp2
  refine aT (v:=.bool false) f.o results148 rfl rfl rfl ?_;exact iT 0 false 0 ⟨#[]⟩ false G.o.1 G.o.2 D HL.o.1 (fun h=>by cases h) (by decide) (by decide) (fun y t P=>by have:=P.1;cases this)
theorem NZ (d:Nat) (xq:d≤20) (PN:pZ d):pZ (d+1):=by
 intro g mb r w h hr;rw [show ((d+1:Nat):Int)=(d:Int)+1 by omega]
 have y7:(0:Int)≤(d:Int):=by omega
 have y5:(d:Int)≤20:=by omega
 have y6:¬ (d:Int)+1<1:=by omega
 have IT:=Hh (fun (k:Int) (hk:k=4∨k=5) (n:Nat) (hn:n<18446744073709551616) (B:Ub) (l:World) (Z:PrC l g mb B) (h1:B.length≤100000) (hL:LIr d k n r [] [] B)=>OA d xq PN k hk n hn l Z h1 hL)
 clear PN xq;have P:=h.lt;have yp:=(Br w.heap.size w).alloc (o:=.cells Z6 28) (Lr _);have h0:=h.below yp;have x7:=Hn w (.cells Z6 28);have yf:=dV w (.cells Z6 28) (some g);have yg:w.heap.size<(w.alloc (.cells Z6 28)).heap.size:=by simp
 have HD:=Hh (fun (l:World) (Z:PrC l g mb r)=>IY l Z (by omega))
 clear h yp
 go_enter func148,ntmps148
 go_upto_region 1 with fail
 generalize w.alloc (.cells Z6 28)=w0 at h0 x7 yf yg ⊢;have HR:=Hh x7;have HG:=Hh yf;clear x7 yf
 go_upto_region 2 with ((with_reducible refine (HD.o _ h0).mono ?_);rintro e w1 ⟨m,n,ok,B,rfl,yi,xm,hm,hn,xa,J,hI⟩)
 have bB:=(Br w1.heap.size w1).alloc (o:=.cells #[Iz (m:Int),.int .u64 (n:Int)] 214) (Lr _);have x6:=yi.below bB;have k2:=Hn w1 (.cells #[Iz (m:Int),.int .u64 (n:Int)] 214);have xv:=aJ (aJ HG.o xm) (dV w1 (.cells #[Iz (m:Int),.int .u64 (n:Int)] 214) (some g));have ye:=cP xm (by omega) HR.o
 have xt:=(bB.block _ (Aa ye)).trans ye;have y3:w.heap.size<w1.heap.size:=Ll yg xm.size;have yr:w1.heap.size<(w1.alloc (.cells #[Iz (m:Int),.int .u64 (n:Int)] 214)).heap.size:=by simp
 generalize w1.alloc (.cells #[Iz (m:Int),.int .u64 (n:Int)] 214)=H at x6 k2 xv xt yr ⊢;obtain ⟨b,hb⟩:∃b,b=w1.heap.size:=⟨_,rfl⟩;rw [←hb] at k2 y3 yr ⊢;have O:=Hh (Ai x6 xv);have K2:=Hh k2;have F:=Hh xt;have HI:=Hh hI;have HL:=Hh (Ai xa J);have xp:B.length≤100000:=by omega
 have c2:=eJ k2;clear hb x6 xv k2 hI xa J ye xt yi xm bB HD HR HG h0 w1 yg;cases ok with
 | false=>
  have f2:=aE F.o;have e2:=aA F.o
  go_wp2
  refine aT (v:=.bool false) F.o results148 rfl rfl rfl ?_;exact iT 0 false 0 ⟨#[]⟩ false O.o.1 O.o.2 P HL.o.1 (fun h=>by cases h) (by decide) (by decide) (fun y t hV=>by have:=(zV HI.o hV).1;cases this)
 | true=>
  have xa:=HL.o.1;have J:=HL.o.2 rfl
  by_cases T:m=0
  ·have C:=DS (n:Int)
   obtain ⟨z,hz⟩:∃z,z=IntKind.i64.wrap (n:Int):=⟨_,rfl⟩;have yy:IntKind.i64.wrap (n:Int)=z:=hz.symm;rw [←hz] at C;have HV:Hid (∀y t,CIr (d+1) r y t→(.mk 2 false z ⟨#[]⟩ [] [])=y∧B=t):=Hh fun y t s=>by
    obtain ⟨-,e1,e2,S⟩:=zV HI.o s;rcases kF s.1 s.2.1 with ⟨c1,-⟩ | ⟨c1,c2,c3⟩ | ⟨c1,-⟩ | ⟨c1,-⟩ | ⟨c1,-⟩ | ⟨c1,-⟩
    ·omega
    ·have x9:z=(gL y:Int):=by rw [hz,e2];exact Cc _ (by omega)
     refine ⟨by rw [x9];exact c3.symm,?_⟩
     rw [S,c3];rfl
    all_goals omega
   have xl:((m:Int) == 0)=true:=by simp;try omega
   have xc:((m:Int) == 1)=false:=by simp;try omega
   have E:((m:Int) == 3)=false:=by simp;try omega
   have D:((m:Int) == 4)=false:=by simp;try omega
   have xh:((m:Int) == 5)=false:=by simp;try omega
   have NN:=Hh (fun l=>tI z l)
   have xz:=Hh C;clear T hz C
   go_wp2_with (go_at_call 171;(with_reducible refine (NN.o _).mono ?_);rintro e w3 ⟨rfl,E⟩;(have a:=(E.block _ (Aa F.o)).trans F.o);(have f3:=aE a);(have S:=aA a);(have u:=Hh a);(have q:=Hh (Ai (O.o.1.below E) (aJ O.o.2 (aK E (Lr _) _))));clear a)
   refine aT (v:=.bool true) u.o results148 rfl rfl rfl ?_;exact iT 2 false z ⟨#[]⟩ true q.o.1 q.o.2 P xa (fun _=>J) (by decide) xz.o (fun y t s=>⟨rfl,HV.o y t s⟩)
  by_cases Y:m=1
  ·have C:=DS (-1 - IntKind.i64.wrap (n:Int))
   obtain ⟨z1,xo⟩:∃z,z=IntKind.i64.wrap (n:Int):=⟨_,rfl⟩;have y4:IntKind.i64.wrap (n:Int)=z1:=xo.symm;rw [←xo] at C;obtain ⟨z,hz⟩:∃z,z=IntKind.i64.wrap (-1 - z1):=⟨_,rfl⟩;have yy:IntKind.i64.wrap (-1 - z1)=z:=hz.symm;rw [←hz] at C;have HV:Hid (∀y t,CIr (d+1) r y t→(.mk 2 false z ⟨#[]⟩ [] [])=y∧B=t):=Hh fun y t s=>by
    obtain ⟨-,e1,e2,S⟩:=zV HI.o s;rcases kF s.1 s.2.1 with ⟨c1,-⟩ | ⟨c1,-⟩ | ⟨c1,c2,c3⟩ | ⟨c1,-⟩ | ⟨c1,-⟩ | ⟨c1,-⟩
    ·omega
    ·omega
    ·have yn:z1=(gL y:Int):=by rw [xo,e2];exact Cc _ (by omega)
     have x9:z=-1 - (gL y:Int):=by rw [hz,yn];exact Cc _ (by omega)
     refine ⟨by rw [x9];exact c3.symm,?_⟩
     rw [S,c3];rfl
    all_goals omega
   have xl:((m:Int) == 0)=false:=by simp;try omega
   have xc:((m:Int) == 1)=true:=by simp;try omega
   have E:((m:Int) == 3)=false:=by simp;try omega
   have D:((m:Int) == 4)=false:=by simp;try omega
   have xh:((m:Int) == 5)=false:=by simp;try omega
   have NN:=Hh (fun l=>tI z l)
   have xz:=Hh C;clear T Y hz xo C
   go_wp2_with (go_at_call 171;(with_reducible refine (NN.o _).mono ?_);rintro e w3 ⟨rfl,E⟩;(have a:=(E.block _ (Aa F.o)).trans F.o);(have f3:=aE a);(have S:=aA a);(have u:=Hh a);(have q:=Hh (Ai (O.o.1.below E) (aJ O.o.2 (aK E (Lr _) _))));clear a)
   refine aT (v:=.bool true) u.o results148 rfl rfl rfl ?_;exact iT 2 false z ⟨#[]⟩ true q.o.1 q.o.2 P xa (fun _=>J) (by decide) xz.o (fun y t s=>⟨rfl,HV.o y t s⟩)
  by_cases ya:m=3
  ·skip
   have xl:((m:Int) == 0)=false:=by simp;try omega
   have xc:((m:Int) == 1)=false:=by simp;try omega
   have E:((m:Int) == 3)=true:=by simp;try omega
   have D:((m:Int) == 4)=false:=by simp;try omega
   have xh:((m:Int) == 5)=false:=by simp;try omega
   by_cases hq:n≤B.length
   ·clear T Y
    have TK:=Hh (fun (l:World) (Z:PrC l g mb B)=>vS n l Z (by omega) hq)
    have yv:(bC (B.take n)).size≤100000:=by rw [bY,Bc];omega
    have HV:Hid (∀y t,CIr (d+1) r y t→(.mk 3 false 0 (bC (B.take n)) [] [])=y∧B.drop n=t):=Hh fun y t s=>by
     obtain ⟨-,e1,e2,S⟩:=zV HI.o s;rcases kF s.1 s.2.1 with ⟨c1,-⟩ | ⟨c1,-⟩ | ⟨c1,-⟩ | ⟨c1,c2,c3,c4⟩ | ⟨c1,-⟩ | ⟨c1,-⟩
     ·omega
     ·omega
     ·omega
     ·have yq:gL y=y.text.size:=by rw [c3];rfl
      have xu:nD d y=y.text.data.toList:=by rw [c3];rfl
      rw [xu] at S;obtain ⟨-,f2,f3⟩:=nF S;rw [e2,yq];exact ⟨by rw [f2];exact c3.symm,f3⟩
     all_goals omega
    have yz:(B.drop n).length≤B.length:=by rw [Ce];omega
    obtain ⟨sx,xr⟩:∃sx,sx=bC (B.take n):=⟨_,rfl⟩;obtain ⟨rx,yd⟩:∃rx,rx=B.drop n:=⟨_,rfl⟩;rw [←xr,←yd] at TK HV;rw [←xr] at yv;rw [←yd] at yz;clear xr yd hq;have NT:=Hh (fun l=>gN sx l)
    go_upto_region 10 with fail
    refine aI (fun w'=>w'.cell? ⟨b,1,none⟩=some (.int .u64 (n:Int))) [4] (.take 0 (.take 1 (.take 2 (.take 3 (.take 4 (.ask 5 false (.take 6 (.take 7 (.take 8 (.take 9 (.ask 10 false .stop .stop))))) .stop)))))) (by kernel_rfl) (by kernel_rfl) (fun _ d _ _ _ h=>by cases d <;> exact h) c2.2 ?_
    have Q:PrC H.drew g mb B:=O.o.1.below (Br _ _).drew;have A:=Hh Q;have xg:Hid (w.grownBy H.drew (some g)):=Hh (aJ O.o.2 (aK ((Br H.heap.size H).drew) (Lr _) _));have I:Hid (H.drew.heap[w.heap.size]?=some (.cells Z6 28 (0,0))):=Hh F.o;clear Q c2;generalize H.drew=U at A xg I ⊢
    iterate 4 (refine aF _ ?_ rfl rfl ?_ (fun K f=>?_);rotate_left;(intro w0;go_simp;(try rfl));(go_simp;refine f _ ?_;clear f K))
    refine aM _ ?_ rfl rfl (by decide) ?_ (fun K f=>?_);rotate_left;(intro w0 xb;go_simp;(try rfl));(go_simp;refine f _ ?_;clear f K)
    refine aB _ rfl trivial ?_;go_wp2_with (go_at_call 172;(with_reducible refine (TK.o _ A.o).mono ?_);rintro e w3 ⟨rfl,M,G⟩);refine Seg.mk ?_
    iterate 4 (refine aF _ ?_ rfl rfl ?_ (fun K f=>?_);rotate_left;(intro w0;go_simp;(try rfl));(go_simp;refine f _ ?_;clear f K))
    refine bQ _ rfl trivial ?_;have a:=cP G (by omega) I.o
    have u:=Hh a;have q:=Hh (Ai M (aJ xg.o G));clear a M G
    go_wp2_with (go_at_call 50;(with_reducible refine (NT.o _).mono ?_);rintro e w4 ⟨rfl,D⟩;(have L:=(D.block _ (Aa u.o)).trans u.o);(have f4:=aE L);(have e4:=aA L);(have yc:=Hh L);(have xe:=Hh (Ai (q.o.1.below D) (aJ q.o.2 (aK D (Lr _) _))));clear L)
    refine aT (v:=.bool true) yc.o results148 rfl rfl rfl ?_;exact iT 3 false 0 sx true xe.o.1 xe.o.2 P (by omega) (fun _=>by omega) (by unfold maxLen;omega) (by decide) (fun y t s=>⟨rfl,HV.o y t s⟩)
   ·clear T Y
    have TK:=Hh (fun (l:World) (Z:PrC l g mb B)=>BU n l Z (by omega) hq)
    have HV:Hid (∀y t,¬CIr (d+1) r y t):=Hh fun y t s=>by
     obtain ⟨-,e1,e2,S⟩:=zV HI.o s;rcases kF s.1 s.2.1 with ⟨c1,-⟩ | ⟨c1,-⟩ | ⟨c1,-⟩ | ⟨c1,c2,c3,c4⟩ | ⟨c1,-⟩ | ⟨c1,-⟩
     ·omega
     ·omega
     ·omega
     ·have yq:gL y=y.text.size:=by rw [c3];rfl
      have xu:nD d y=y.text.data.toList:=by rw [c3];rfl
      rw [xu] at S;obtain ⟨f1,-,-⟩:=nF S;omega
     all_goals omega
    clear hq;have NT:=Hh (fun l=>gN ⟨#[]⟩ l)
    go_upto_region 10 with fail
    refine aI (fun w'=>w'.cell? ⟨b,1,none⟩=some (.int .u64 (n:Int))) [4] (.take 0 (.take 1 (.take 2 (.take 3 (.take 4 (.ask 5 false (.take 6 (.take 7 (.take 8 (.take 9 (.ask 10 false .stop .stop))))) .stop)))))) (by kernel_rfl) (by kernel_rfl) (fun _ d _ _ _ h=>by cases d <;> exact h) c2.2 ?_
    have Q:PrC H.drew g mb B:=O.o.1.below (Br _ _).drew;have A:=Hh Q;have xg:Hid (w.grownBy H.drew (some g)):=Hh (aJ O.o.2 (aK ((Br H.heap.size H).drew) (Lr _) _));have I:Hid (H.drew.heap[w.heap.size]?=some (.cells Z6 28 (0,0))):=Hh F.o;clear Q c2;generalize H.drew=U at A xg I ⊢
    iterate 4 (refine aF _ ?_ rfl rfl ?_ (fun K f=>?_);rotate_left;(intro w0;go_simp;(try rfl));(go_simp;refine f _ ?_;clear f K))
    refine aM _ ?_ rfl rfl (by decide) ?_ (fun K f=>?_);rotate_left;(intro w0 xb;go_simp;(try rfl));(go_simp;refine f _ ?_;clear f K)
    refine aB _ rfl trivial ?_;go_wp2_with (go_at_call 172;(with_reducible refine (TK.o _ A.o).mono ?_);rintro e w3 ⟨rfl,M,G⟩);refine Seg.mk ?_
    iterate 4 (refine aF _ ?_ rfl rfl ?_ (fun K f=>?_);rotate_left;(intro w0;go_simp;(try rfl));(go_simp;refine f _ ?_;clear f K))
    refine bQ _ rfl trivial ?_;have a:=cP G (by omega) I.o
    have u:=Hh a;have q:=Hh (Ai M (aJ xg.o G));clear a M G
    go_wp2_with (go_at_call 50;(with_reducible refine (NT.o _).mono ?_);rintro e w4 ⟨rfl,D⟩;(have L:=(D.block _ (Aa u.o)).trans u.o);(have f4:=aE L);(have e4:=aA L);(have yc:=Hh L);(have xe:=Hh (Ai (q.o.1.below D) (aJ q.o.2 (aK D (Lr _) _))));clear L)
    refine aT (v:=.bool false) yc.o results148 rfl rfl rfl ?_;exact iT 3 false 0 ⟨#[]⟩ false xe.o.1 xe.o.2 P (by omega) (fun h=>by cases h) (by decide) (by decide) (fun y t s=>absurd s (HV.o y t))
  by_cases y1:m=4
  ·have xi:LIr d 4 n r [] [] B:=by
    have:=LIr.start (d:=d) HI.o (by omega)
    rw [show (m:Int)=4 by omega] at this
    exact this
   have xw:=Hh (fun (l:World) (Z:PrC l g mb B)=>IT.o 4 (by decide) n hn B l Z xp xi)
   have x8:w.heap.size<H.heap.size:=by omega
   have xl:((m:Int) == 0)=false:=by simp;try omega
   have xc:((m:Int) == 1)=false:=by simp;try omega
   have E:((m:Int) == 3)=false:=by simp;try omega
   have D:((m:Int) == 4)=true:=by simp;try omega
   have xh:((m:Int) == 5)=false:=by simp;try omega
   clear T Y ya xi
   go_wp2_with (go_at_call 173;(with_reducible refine (xw.o _ O.o.1).mono ?_);rintro e5 w5 ⟨cs,x,ok,r',rfl,i,xk,V,y0,R,xf,xd⟩;go_loud ((obtain ⟨a1,l1,d1,a2,l2,d2,xx⟩:=i.slices);subst xx;(have N:=cP V (by omega) F.o);(have f9:=aE N);(have c9:=aA N);(have xy:=Hh N);(have HN:=Hh (Ai i (Ai xk xf)));(have xs:=Hh (aJ O.o.2 V));(have xj:Hid (r'.length≤r.length∧(ok=true→r'.length<r.length)):=Hh ⟨by omega,fun h=>by have:=R h;omega⟩);(have yb:=Hh xd);clear N i xk xf V xd R))
   refine aT (v:=.bool ok) xy.o results148 rfl rfl rfl ?_;exact FW HN.o.1 x8 HN.o.2.1 xs.o P xj.o.1 xj.o.2 HN.o.2.2 yb.o
  by_cases yw:m=5
  ·have xi:LIr d 5 n r [] [] B:=by
    have:=LIr.start (d:=d) HI.o (by omega)
    rw [show (m:Int)=5 by omega] at this
    exact this
   have xw:=Hh (fun (l:World) (Z:PrC l g mb B)=>IT.o 5 (by decide) n hn B l Z xp xi)
   have x8:w.heap.size<H.heap.size:=by omega
   have xl:((m:Int) == 0)=false:=by simp;try omega
   have xc:((m:Int) == 1)=false:=by simp;try omega
   have E:((m:Int) == 3)=false:=by simp;try omega
   have D:((m:Int) == 4)=false:=by simp;try omega
   have xh:((m:Int) == 5)=true:=by simp;try omega
   clear T Y ya xi
   go_wp2_with (go_at_call 173;(with_reducible refine (xw.o _ O.o.1).mono ?_);rintro e5 w5 ⟨cs,x,ok,r',rfl,i,xk,V,y0,R,xf,xd⟩;go_loud ((obtain ⟨a1,l1,d1,a2,l2,d2,xx⟩:=i.slices);subst xx;(have N:=cP V (by omega) F.o);(have f9:=aE N);(have c9:=aA N);(have xy:=Hh N);(have HN:=Hh (Ai i (Ai xk xf)));(have xs:=Hh (aJ O.o.2 V));(have xj:Hid (r'.length≤r.length∧(ok=true→r'.length<r.length)):=Hh ⟨by omega,fun h=>by have:=R h;omega⟩);(have yb:=Hh xd);clear N i xk xf V xd R))
   refine aT (v:=.bool ok) xy.o results148 rfl rfl rfl ?_;exact FW HN.o.1 x8 HN.o.2.1 xs.o P xj.o.1 xj.o.2 HN.o.2.2 yb.o
  have HV:Hid (∀y t,CIr (d+1) r y t→(oF m n).isSome=true∧(.mk (((oF m n).getD nd0).kind) (((oF m n).getD nd0).bool) 0 ⟨#[]⟩ [] [])=y∧B=t):=Hh fun y t s=>by
   obtain ⟨-,e1,e2,S⟩:=zV HI.o s;have h7:fZ y=7:=by rcases aJw s.1 s.2.1 with c | c | c | c | c | c <;> omega
   obtain ⟨f1,f2⟩:=GM s.1 h7;rw [f2] at S;rw [e1,e2,h7,f1];refine ⟨rfl,?_,S⟩;unfold oF at f1
   split at f1
   ·cases f1;rfl
   ·split at f1
    ·cases f1;rfl
    ·split at f1
     ·cases f1;rfl
     ·cases f1
  have LK:=Hh (fun (l:World) (Z:pX l mb)=>Z.look hm hn)
  obtain ⟨zk,ys⟩:∃k,k=(((oF m n).getD nd0).kind):=⟨_,rfl⟩;obtain ⟨zb,yh⟩:∃k,k=(((oF m n).getD nd0).bool):=⟨_,rfl⟩;obtain ⟨zo,yj⟩:∃k,k=(oF m n).isSome:=⟨_,rfl⟩;simp only [fY] at LK;rw [←ys,←yh,←yj] at LK HV;clear ys yh yj;have xl:((m:Int) == 0)=false:=by simp;try omega
  have xc:((m:Int) == 1)=false:=by simp;try omega
  have E:((m:Int) == 3)=false:=by simp;try omega
  have D:((m:Int) == 4)=false:=by simp;try omega
  have xh:((m:Int) == 5)=false:=by simp;try omega
  clear T Y ya y1 yw;have ym:=O.o.1.2.1;have cg:=aL O.o.1.1 (j:=1) rfl
  go_upto_region 16 with fail
  refine aI (fun w'=>(w'.cell? ⟨g,1,none⟩=some (.map (some mb))∧(w'.cell? ⟨b,0,none⟩=some (Iz (m:Int))∧w'.cell? ⟨b,1,none⟩=some (.int .u64 (n:Int))))∧pX w' mb) [3,4,5] (.take 0 (.take 1 (.take 2 (.take 3 (.take 4 (.take 5 (eP.join true (.ask 6 false (.take 7 (.take 8 (.ask 9 false .stop .stop))) (.ask 9 true (.ask 6 false (.take 7 (.take 8 .stop)) .stop) .stop)) (.ask 10 false (.ask 11 false .stop .stop) .stop)))))))) (by kernel_rfl) (by kernel_rfl) (fun _ d _ _ _ h=>by cases d <;> exact h) ⟨⟨cg,c2⟩,ym⟩ ?_
  have Q:PrC H.drew g mb B:=O.o.1.below (Br _ _).drew;have A:=Hh (Ai Q (aJ O.o.2 (aK ((Br H.heap.size H).drew) (Lr _) _)));have I:Hid (H.drew.heap[w.heap.size]?=some (.cells Z6 28 (0,0))):=Hh F.o;have yt:(H.drew.cell? ⟨g,1,none⟩=some (.map (some mb))∧(H.drew.cell? ⟨b,0,none⟩=some (Iz (m:Int))∧H.drew.cell? ⟨b,1,none⟩=some (.int .u64 (n:Int)))):=⟨cg,c2⟩;have X:=Hh yt;clear Q cg c2 ym yt;generalize H.drew=U at A I X ⊢
  iterate 3 (refine aF _ ?_ rfl rfl ?_ (fun K f=>?_);rotate_left;(intro w0;go_simp;(try rfl));(go_simp;refine f _ ?_;clear f K))
  iterate 2 (refine aM _ ?_ rfl rfl (by decide) ?_ (fun K f=>?_);rotate_left;(intro w0 xb;obtain ⟨⟨s0,s1,s2⟩,sh⟩:=xb;go_simp;(try rfl));(go_simp;refine f _ ?_;clear f K))
  refine aM _ ?_ rfl rfl (by decide) ?_ (fun K f=>?_);rotate_left;(intro w0 xb;have lk:=LK.o w0 xb.2;go_simp;(try rfl));(go_simp;refine f _ ?_;clear f K)
  refine dW [10,72,79,80] (fun vs l=>vs=[.pointer (some ⟨U.heap.size,0,none⟩),.tuple #[.agg #[Iz zk,.bool zb,Iz 0,.string ⟨#[]⟩,Sn,Sn],.bool zo],.agg #[Iz zk,.bool zb,Iz 0,.string ⟨#[]⟩,Sn,Sn],.bool zo]∧l=U.alloc (.cells Z6 28)) ?_ ?_
  ·refine aB _ rfl ?_ ?_
   rotate_left
   ·go_wp2_with fail;refine Seg.mk ?_
    iterate 2 (refine aF _ ?_ rfl rfl ?_ (fun K f=>?_);rotate_left;(intro w0;go_simp;(try rfl));(go_simp;refine f _ ?_;clear f K))
    refine aB _ rfl trivial ?_;go_wp2_with fail;refine Seg.mk ?_;exact aN [.pointer (some ⟨U.heap.size,0,none⟩),.tuple #[.agg #[Iz zk,.bool zb,Iz 0,.string ⟨#[]⟩,Sn,Sn],.bool zo],.agg #[Iz zk,.bool zb,Iz 0,.string ⟨#[]⟩,Sn,Sn],.bool zo] ⟨rfl,rfl⟩ rfl
   ·refine aH _ rfl trivial ?_;go_wp2_with fail
    have ba:=(Br U.heap.size U).alloc (o:=.cells Z6 28) (Lr _);refine Seg.mk ⟨⟨⟨(ba.cell (p:=⟨g,1,none⟩) (cD X.o.1)).trans X.o.1,(ba.cell (p:=⟨b,0,none⟩) (cD X.o.2.1)).trans X.o.2.1,(ba.cell (p:=⟨b,1,none⟩) (cD X.o.2.2)).trans X.o.2.2⟩,A.o.1.2.1.same (ba.block _ A.o.1.2.1.lt)⟩,?_⟩;refine aB _ rfl trivial ?_;go_wp2_with fail;refine Seg.mk ?_
    iterate 2 (refine aF _ ?_ rfl rfl ?_ (fun K f=>?_);rotate_left;(intro w0;go_simp;(try rfl));(go_simp;refine f _ ?_;clear f K))
    exact aN [.pointer (some ⟨U.heap.size,0,none⟩),.tuple #[.agg #[Iz zk,.bool zb,Iz 0,.string ⟨#[]⟩,Sn,Sn],.bool zo],.agg #[Iz zk,.bool zb,Iz 0,.string ⟨#[]⟩,Sn,Sn],.bool zo] ⟨rfl,rfl⟩ rfl
  ·rintro vs w' ⟨rfl,yk⟩
   simp only [gJ,Act.put,Aq,Az,Ba];have kz:=Hn U (.cells Z6 28);have ba:=(Br U.heap.size U).alloc (o:=.cells Z6 28) (Lr _);rw [←yk] at kz ba;clear yk;have yl:=A.o.1.below ba;have yo:=aJ A.o.2 (aK ba (Lr _) _);have yu:=(ba.block _ (Aa I.o)).trans I.o;have y2:w.heap.size ≠ U.heap.size:=by have:=Aa I.o;omega
   have yx:g<U.heap.size:=A.o.1.lt;have x5:=dG kz (Iz zk) (.bool zb) (Iz 0) (.string ⟨#[]⟩) (Sn) (Sn);have xn:=aO w' U.heap.size (Iz zk) (.bool zb) (Iz 0) (.string ⟨#[]⟩) (Sn) (Sn);have M:=yl.kept xn yx;have G:=gO yo xn (Af A.o.2.size (Lr _));have a:=cP xn (fun e=>y2 e) yu
   have fz:=aE kz;have cz:=aA kz;obtain ⟨w3,C⟩:∃W,W=dJ w' U.heap.size (Iz zk) (.bool zb) (Iz 0) (.string ⟨#[]⟩) (Sn) (Sn):=⟨_,rfl⟩;rw [←C] at x5 M G a;simp only [dJ] at C;have q:=Hh (Ai M G);have u:=Hh a;have K3:=Hh x5;clear kz ba yl yo yu xn M G a x5;refine aB _ rfl trivial ?_;go_wp2_with fail;refine Seg.mk ?_;rw [←C];clear C fz cz;refine bQ _ rfl trivial ?_;have c3:=aA K3.o;have f3:=aE u.o;have S:=aA u.o
   go_wp2
   refine aT (v:=.bool zo) u.o results148 rfl rfl rfl ?_;exact iT zk zb 0 ⟨#[]⟩ zo q.o.1 q.o.2 P xa (fun _=>J) (by decide) (by decide) HV.o
theorem BV:∀d,d≤20→pZ d
 | 0,_=>NY
 | d+1,h=>NZ d (by omega) (BV d (by omega))
end Go.Proofs.YtncdpanfefnjlaaGreatDoor