import Derived.Test.YtncdpanfefnjlaaGreatDoorMpd
import Derived.Test.YtncdpanfefnjlaaGreatDoorJrv
set_option linter.unusedVariables false
set_option linter.unusedSimpArgs false
set_option maxHeartbeats 6400000
set_option maxRecDepth 100000
namespace Go.Proofs.YtncdpanfefnjlaaGreatDoor
open Go.Proofs.Tryz
open Go Go.ChangeShapes Go.WideShapes Go.ChangeAt Go.RowKit
theorem jN {P:List (Ub)} {j:Nat} {p:Ub} (h:P[j]?=some p):(P.take (j+1)).flatten=(P.take j).flatten++p:=by
 rw [Bf,h,List.flatten_append];simp
theorem lJ (P:List (Ub)) (j:Nat):(P.take j).flatten.length≤P.flatten.length:=by
 conv=>rhs;rw [←De j P]
 rw [List.flatten_append,Lg];omega
theorem BZ (s:Bt):bC (cR 3 s.size)++s=bC (fT s):=by
 apply mG
 rw [Cp,Dw,gR,gR]
 rfl
def vZ (d:Nat):Prop:=∀ (D:Nat) (S:Nat→Prop) (a:Vl) (x:ND) (w:World),aD D S w a x→(∀b,S b→b<w.heap.size)→aC d x=true→aP d x=true→(aU d x).length≤35184372088832 →
 Calls prog 68 #[.agg a.toArray] w fun e w'=>e=.returned (.string (bC (aU d x)))∧Below w.heap.size w w'
theorem GR {d:Nat} (IH:vZ d):vZ (d+1):=by
 intro D S cs x w h hS hv hn f;obtain ⟨a1,l1,c1,a2,l2,c2,rfl⟩:=h.slices;have b1:=(Br w.heap.size w).alloc (o:=.cells #[Iz x.kind,.bool x.bool,Iz x.num,.string x.text,.slice a1 l1 c1,.slice a2 l2 c2] 28) (Lr _);have T:=cG hn;have r:=aX hv;cases D with
 | zero=>exact h.elim
 | succ D=>
 obtain ⟨vn,vi,e,ht,L,B⟩:=h;simp only [Bu,Dd,Dj] at e;obtain ⟨rfl,rfl⟩:=e;have hk:=iF hv;obtain ⟨k,b,n,t,ns,its⟩:=x;simp only [ND.kind,ND.bool,ND.num,ND.text,ND.names,ND.items,nd0,ND.mk.injEq,Dj,Dd] at hk ht L B b1 T r ⊢;rcases hk with ⟨rfl,rfl,rfl,rfl,rfl,rfl⟩ | ⟨rfl,rfl,rfl,rfl,rfl⟩ | ⟨rfl,rfl,rfl,rfl,rfl⟩ | ⟨rfl,rfl,rfl,rfl,rfl⟩ | ⟨rfl,rfl,rfl,rfl,rfl⟩ | ⟨⟨rfl,rfl,rfl,rfl⟩,xh⟩
 ·have C:bC (aU (d+1) (.mk 0 false 0 ⟨#[]⟩ [] []))=⟨#[246]⟩:=by rw [dU];rfl
  rw [C];clear L B T r hv hn f IH ht C
  go_enter func68,ntmps68
  go_wp2
  go_ret
  exact ⟨rfl,b1⟩
 ·have C:bC (aU (d+1) (.mk 1 b 0 ⟨#[]⟩ [] []))=if b then ⟨#[245]⟩ else ⟨#[244]⟩:=by rw [dU];cases b <;> rfl
  rw [C];clear L B T r hv hn f IH ht C;cases b
  all_goals
   go_enter func68,ntmps68
   go_wp2
   go_ret
   exact ⟨rfl,b1⟩
 ·obtain ⟨hw,-⟩:=T
  unfold dD at hw;rw [An,As,As] at hw;have B1:=Hh b1
  by_cases yn:n<0
  ·have C:bC (aU (d+1) (.mk 2 false n ⟨#[]⟩ [] []))=bC (cR 1 (-1 - n).toNat):=by
    rw [dU];unfold fZ gL nD;simp [ND.kind,ND.num,yn]
   rw [C];have RH:=Hh (fun g=>jU 1 (-1 - n).toNat g (by decide) (by omega))
   have xj:((-1 - n).toNat:Int)=-1 - n:=by omega
   rw [xj,show ((1:Nat):Int)=1 from rfl] at RH
   have xg:IntKind.u64.wrap n=18446744073709551616+n:=by rw [Bi];omega
   have yy:bits BinOp.xor IntKind.u64 IntKind.u64.max (18446744073709551616+n)=-1 - n:=by
    have e1:18446744073709551616+n=(((18446744073709551616+n).toNat:Nat):Int):=by omega
    have e2:IntKind.u64.max=((2 ^ 64 - 1:Nat):Int):=by decide
    rw [e1,e2,bits_xor_u64_nat _ _ (by decide) (by omega),Lib.xor_ones64 _ (by omega)]
    omega
   obtain ⟨M,hM⟩:∃M,M=-1 - n:=⟨_,rfl⟩;rw [←hM] at RH yy;have yp:=Hh hM;clear L B r hv hn f IH ht b1 hw C xj hM
   go_enter func68,ntmps68
   go_wp2_with (go_at_call 101;(with_reducible refine (RH.o _).mono ?_);rintro e w2 ⟨rfl,u⟩)
   go_ret
   exact ⟨by rw [←yp.o];rfl,B1.o.trans (u.mono B1.o.size)⟩
  ·have C:bC (aU (d+1) (.mk 2 false n ⟨#[]⟩ [] []))=bC (cR 0 n.toNat):=by
    rw [dU];unfold fZ gL nD;simp [ND.kind,ND.num,yn]
   rw [C];have RH:=Hh (fun g=>jU 0 n.toNat g (by decide) (by omega))
   have xj:(n.toNat:Int)=n:=by omega
   rw [xj,show ((0:Nat):Int)=0 from rfl] at RH
   have xg:IntKind.u64.wrap n=n:=by rw [Bi];omega
   clear L B r hv hn f IH ht b1 hw C xj
   go_enter func68,ntmps68
   go_wp2_with (go_at_call 101;(with_reducible refine (RH.o _).mono ?_);rintro e w2 ⟨rfl,u⟩)
   go_ret
   exact ⟨rfl,B1.o.trans (u.mono B1.o.size)⟩
 ·have hs:=dY r.2.2.1
  have C:bC (aU (d+1) (.mk 3 false 0 t [] []))=bC (cR 3 t.size)++t:=by
   rw [BZ,dU];rfl
  rw [C];have RH:=Hh (fun g=>jU 3 t.size g (by decide) (by omega))
  rw [show ((3:Nat):Int)=3 from rfl] at RH
  have xg:IntKind.u64.wrap (t.size:Int)=(t.size:Int):=by rw [Bi];omega
  have y5:¬9223372036854775807<(bC (cR 3 t.size)).size+t.size:=by rw [bY,eH];have:=nB t.size;omega
  have ck:=aA (Hn w (.cells #[Iz 3,.bool false,Iz 0,.string t,.slice a1 l1 c1,.slice a2 l2 c2] 28));have m:w.heap.size<(w.alloc (.cells #[Iz 3,.bool false,Iz 0,.string t,.slice a1 l1 c1,.slice a2 l2 c2] 28)).heap.size:=by simp
  clear L B T r hv hn f IH ht C
  go_enter func68,ntmps68
  go_upto_region 1 with fail
  generalize w.alloc (.cells #[Iz 3,.bool false,Iz 0,.string t,.slice a1 l1 c1,.slice a2 l2 c2] 28)=w1 at b1 ck m ⊢
  go_upto_region 11 with fail
  refine aI (fun w'=>w'.cell? ⟨w.heap.size,3,none⟩=some (.string t)) [1,2,6] (.take 0 (.take 1 (.take 2 (.take 5 (.take 6 (.ask 3 true (.ask 4 true (.ask 7 false (.ask 8 false .stop .stop) .stop) .stop) .stop)))))) (by kernel_rfl) (by kernel_rfl) (fun _ d _ _ _ h=>by cases d <;> exact h) ck.2.2.2.1 ?_
  have F:w1.drew.cell? ⟨w.heap.size,3,none⟩=some (.string t):=ck.2.2.2.1;have xc:w.heap.size<w1.drew.heap.size:=m;have ya:=b1.drew;clear ck;generalize w1.drew=wd at F xc ya ⊢;refine aF _ ?_ rfl rfl ?_ (fun K c=>?_);rotate_left;(intro w0;go_simp;(try rfl));(go_simp;refine c _ ?_;clear c K)
  refine aM _ ?_ rfl rfl (by decide) ?_ (fun K c=>?_);rotate_left;(intro w0 N;skip;go_simp;(try rfl));(go_simp;refine c _ ?_;clear c K)
  iterate 2 (refine aF _ ?_ rfl rfl ?_ (fun K c=>?_);rotate_left;(intro w0;go_simp;(try rfl));(go_simp;refine c _ ?_;clear c K))
  refine aM _ ?_ rfl rfl (by decide) ?_ (fun K c=>?_);rotate_left;(intro w0 N;skip;go_simp;(try rfl));(go_simp;refine c _ ?_;clear c K)
  refine aH _ rfl trivial ?_;go_wp2_with fail;refine Seg.mk ⟨F,?_⟩;refine aH _ rfl trivial ?_;go_wp2_with (go_at_call 101;(with_reducible refine (RH.o _).mono ?_);rintro e w5 ⟨rfl,xd⟩);refine Seg.mk ⟨(xd.cell (p:=⟨w.heap.size,3,none⟩) xc).trans F,?_⟩;have y2:=Hh (ya.trans (xd.mono ya.size));refine aB _ rfl trivial ?_;go_wp2_with fail;refine Seg.mk ?_;refine bQ _ rfl trivial ?_
  go_wp2
  go_ret
  exact ⟨rfl,y2.o⟩
 ·obtain ⟨P0,xa⟩:∃P,P=its.map (aU d):=⟨_,rfl⟩
  have xp:aU (d+1) (.mk 4 false 0 ⟨#[]⟩ [] its)=cR 4 its.length++P0.flatten:=by rw [xa];rfl
  rw [xp] at f ⊢;have G:P0.flatten.length≤35184372088832:=by rw [Lg,eH] at f;omega
  obtain ⟨ai,ci,ei,y0,yz,-⟩:=id B;have yb:l2=its.length:=by cases ei;rfl
  subst yb;clear ei;have x8:=r.2.1;have ck:=aA (Hn w (.cells #[Iz 4,.bool false,Iz 0,.string ⟨#[]⟩,.slice a1 l1 c1,.slice a2 its.length c2] 28));have m:w.heap.size<(w.alloc (.cells #[Iz 4,.bool false,Iz 0,.string ⟨#[]⟩,.slice a1 l1 c1,.slice a2 its.length c2] 28)).heap.size:=by simp
  generalize xg:w.alloc (.cells #[Iz 4,.bool false,Iz 0,.string ⟨#[]⟩,.slice a1 l1 c1,.slice a2 its.length c2] 28)=w1 at b1 ck m;have H:=Hh B;have HS:=Hh hS;have HV:=Hh r;have yd:=Hh T;have HP:=Hh xa;have xm:=Hh G;have HI:=Hh IH;have B1:=Hh b1;have CK:=Hh ck;have WL:=Hh m;have RH:=Hh (fun g=>jU 4 its.length g (by decide) (by omega))
  rw [show ((4:Nat):Int)=4 from rfl] at RH
  have RT:=Hh (fun (n:Nat) (hn:n≤65536) g=>jU 3 n g (by decide) (by omega))
  rw [show ((3:Nat):Int)=3 from rfl] at RT
  have xl:IntKind.u64.wrap (its.length:Int)=(its.length:Int):=by rw [Bi];omega
  clear B L hS r T xa G IH b1 m f xp hn hv ht
  go_enter func68,ntmps68
  go_upto_region 1 with fail
  clear xg
  go_upto_region 15 with ((with_reducible refine (RH.o _).mono ?_);rintro e w2 ⟨rfl,u⟩)
  have xe:=Ll WL.o u.size;have yf:w2.cell? ⟨w.heap.size,5,none⟩=_:=(u.cell (p:=⟨w.heap.size,5,none⟩) WL.o).trans CK.o.2.2.2.2.2;have I:=Hh u;clear ck u xl;obtain ⟨h0,U⟩:∃h0,h0=cR 4 its.length:=⟨_,rfl⟩;rw [←U];have ys:h0.length≤9:=by rw [U];exact rW _
  have x6:=Hh U;clear U
  go_upto_region 16 with fail
  clear yf
  go_loopw [3,49] (fun v i wr=>∃ (j:Nat),i=Iz j∧j≤its.length∧v=.string (bC (h0++(P0.take j).flatten))∧Below w2.heap.size w2 wr) (fun _ i _=>its.length - (intOf i).toNat)
  case atStart=>exact ⟨0,rfl,Av _,by simp,Br _ _⟩
  case round=>
   obtain ⟨j,rfl,hj,rfl,hB⟩:=hrel;have l:=I.o.trans (hB.mono I.o.size);have ck:wr.cell? ⟨w.heap.size,0,none⟩=_∧wr.cell? ⟨w.heap.size,4,none⟩=_:=⟨(l.cell (p:=⟨w.heap.size,0,none⟩) WL.o).trans CK.o.1,(l.cell (p:=⟨w.heap.size,4,none⟩) WL.o).trans CK.o.2.2.2.2.1⟩
   by_cases xz:j<its.length
   ·have xs:(j:Int)<(its.length:Int):=by omega
    have y4:(0:Int)≤(j:Int):=by omega
    obtain ⟨-,-,-,b,A,y,a3,l3,c3,a4,l4,c4,rfl,yg,C,xi,k0,k1,k2,k3,k4,k5⟩:=H.o.at xz;have a:=B1.o.trans (l.mono B1.o.size);have z:=HS.o b yg;have q0:=(a.cell (p:=⟨b,A+j * 6,none⟩) z).trans k0;have q1:=(a.cell (p:=⟨b,A+j * 6+1,none⟩) z).trans k1;have q2:=(a.cell (p:=⟨b,A+j * 6+2,none⟩) z).trans k2;have q3:=(a.cell (p:=⟨b,A+j * 6+3,none⟩) z).trans k3;have q4:=(a.cell (p:=⟨b,A+j * 6+4,none⟩) z).trans k4;have q5:=(a.cell (p:=⟨b,A+j * 6+5,none⟩) z).trans k5;clear k0 k1 k2 k3 k4 k5;have xo:=HV.o.1 y (Ao C);have xq:=yd.o.2 y (Ao C);have xr:P0[j]?=some (aU d y):=by rw [HP.o,Be,C];rfl
    obtain ⟨Q,hQ⟩:∃Q,Q=(P0.take j).flatten:=⟨_,rfl⟩;have E:=jN xr;have X:=lJ P0 (j+1);rw [E,Lg] at X;rw [←hQ] at E X ⊢;have yo:Q.length≤35184372088832:=by have:=xm.o;omega
    have xt:(aU d y).length≤35184372088832:=by have:=xm.o;omega
    have WR:=Hh (fun (g:World) (R:Below w.heap.size w g)=>HI.o D S _ y g (xi.same fun b xb=>R.block b (HS.o b xb)) (fun b xb=>Ll (HS.o b xb) R.size) xo xq xt)
    have bA:=a.alloc (o:=.cells #[Iz y.kind,.bool y.bool,Iz y.num,.string y.text,.slice a3 l3 c3,.slice a4 l4 c4] 28) a.size;have W:=aA (Hn wr (.cells #[Iz y.kind,.bool y.bool,Iz y.num,.string y.text,.slice a3 l3 c3,.slice a4 l4 c4] 28));have q:wr.heap.size<(wr.alloc (.cells #[Iz y.kind,.bool y.bool,Iz y.num,.string y.text,.slice a3 l3 c3,.slice a4 l4 c4] 28)).heap.size:=by simp
    have J:=hB.alloc (o:=.cells #[Iz y.kind,.bool y.bool,Iz y.num,.string y.text,.slice a3 l3 c3,.slice a4 l4 c4] 28) hB.size;have y3:w.heap.size<wr.heap.size:=Ll xe hB.size;obtain ⟨Y,hY⟩:∃Y,Y=aU d y:=⟨_,rfl⟩;rw [←hY] at xt E WR;have xy:=Hh E;have HB:=Hh hB;clear xr X E C xi xo xq hY hB l a hQ
    go_upto_region 18 with fail
    generalize wr.alloc (.cells #[Iz y.kind,.bool y.bool,Iz y.num,.string y.text,.slice a3 l3 c3,.slice a4 l4 c4] 28)=V at bA J W q ⊢;have BA:=Hh (Ai bA J);have CA:=Hh (fun g (R:Below V.heap.size V g)=>(show g.cell? ⟨wr.heap.size,0,none⟩=some (Iz y.kind)∧g.cell? ⟨wr.heap.size,1,none⟩=some (.bool y.bool)∧g.cell? ⟨wr.heap.size,2,none⟩=some (Iz y.num)∧g.cell? ⟨wr.heap.size,3,none⟩=some (.string y.text)∧g.cell? ⟨wr.heap.size,4,none⟩=some (.slice a3 l3 c3)∧g.cell? ⟨wr.heap.size,5,none⟩=some (.slice a4 l4 c4) from ⟨(R.cell (p:=⟨wr.heap.size,0,none⟩) q).trans W.1,(R.cell (p:=⟨wr.heap.size,1,none⟩) q).trans W.2.1,(R.cell (p:=⟨wr.heap.size,2,none⟩) q).trans W.2.2.1,(R.cell (p:=⟨wr.heap.size,3,none⟩) q).trans W.2.2.2.1,(R.cell (p:=⟨wr.heap.size,4,none⟩) q).trans W.2.2.2.2.1,(R.cell (p:=⟨wr.heap.size,5,none⟩) q).trans W.2.2.2.2.2⟩))
    have cx:V.cell? ⟨w.heap.size,0,none⟩=some (Iz 4)∧V.cell? ⟨w.heap.size,4,none⟩=some (.slice a1 l1 c1):=⟨(J.cell (p:=⟨w.heap.size,0,none⟩) xe).trans ((I.o.cell (p:=⟨w.heap.size,0,none⟩) WL.o).trans CK.o.1),(J.cell (p:=⟨w.heap.size,4,none⟩) xe).trans ((I.o.cell (p:=⟨w.heap.size,4,none⟩) WL.o).trans CK.o.2.2.2.2.1)⟩;clear bA J ck W;have x9:¬9223372036854775807<(bC (h0++Q)).size+(bC Y).size:=by rw [bY,bY,Lg];omega
    have ca:=CA.o _ (Br _ _)
    go_wp2_with (go_at_call 68;(with_reducible refine (WR.o _ BA.o.1).mono ?_);rintro e wn ⟨rfl,xx⟩)
    go_roundw
    case rel=>
     refine ⟨j+1,by go_num,by omega,?_,BA.o.2.trans (xx.mono BA.o.2.size)⟩
     rw [xy.o];simp only [kW,Aj,BZ]
    case measure=>simp [intOf];omega
   ·have xs:¬ (j:Int)<(its.length:Int):=by omega
    have yc:P0.length≤its.length:=by rw [HP.o];simp [Dg];try omega
    rw [Ak (by omega)]
    clear yc
    go_wp2
    go_ret
    exact ⟨by rw [←x6.o];rfl,B1.o.trans (l.mono B1.o.size)⟩
 ·obtain ⟨P0,xa⟩:∃P,P=List.zipWith (fun s y=>fT s++aU d y) ns its:=⟨_,rfl⟩
  have xp:aU (d+1) (.mk 5 false 0 ⟨#[]⟩ ns its)=cR 5 its.length++P0.flatten:=by rw [xa];rfl
  rw [xp] at f ⊢;have G:P0.flatten.length≤35184372088832:=by rw [Lg,eH] at f;omega
  obtain ⟨ai,ci,ei,y0,yz,-⟩:=id B;have yb:l2=its.length:=by cases ei;rfl
  subst yb;clear ei;have x8:=r.2.1;have ym:l1=ns.length:=by obtain ⟨_,_,e,_⟩:=id L;cases e;rfl
  have ck:=aA (Hn w (.cells #[Iz 5,.bool false,Iz 0,.string ⟨#[]⟩,.slice a1 l1 c1,.slice a2 its.length c2] 28));have m:w.heap.size<(w.alloc (.cells #[Iz 5,.bool false,Iz 0,.string ⟨#[]⟩,.slice a1 l1 c1,.slice a2 its.length c2] 28)).heap.size:=by simp
  generalize xg:w.alloc (.cells #[Iz 5,.bool false,Iz 0,.string ⟨#[]⟩,.slice a1 l1 c1,.slice a2 its.length c2] 28)=w1 at b1 ck m;have H:=Hh B;have HN:=Hh L;have x5:=Hh xh;have yv:=Hh ym;have HS:=Hh hS;have HV:=Hh r;have yd:=Hh T;have HP:=Hh xa;have xm:=Hh G;have HI:=Hh IH;have B1:=Hh b1;have CK:=Hh ck;have WL:=Hh m;have RH:=Hh (fun g=>jU 5 its.length g (by decide) (by omega))
  rw [show ((5:Nat):Int)=5 from rfl] at RH
  have RT:=Hh (fun (n:Nat) (hn:n≤65536) g=>jU 3 n g (by decide) (by omega))
  rw [show ((3:Nat):Int)=3 from rfl] at RT
  have xl:IntKind.u64.wrap (its.length:Int)=(its.length:Int):=by rw [Bi];omega
  clear B L hS r T xa G IH b1 m f xp hn hv ht xh ym
  go_enter func68,ntmps68
  go_upto_region 1 with fail
  clear xg
  go_upto_region 15 with ((with_reducible refine (RH.o _).mono ?_);rintro e w2 ⟨rfl,u⟩)
  have xe:=Ll WL.o u.size;have yf:w2.cell? ⟨w.heap.size,5,none⟩=_:=(u.cell (p:=⟨w.heap.size,5,none⟩) WL.o).trans CK.o.2.2.2.2.2;have I:=Hh u;clear ck u xl;obtain ⟨h0,U⟩:∃h0,h0=cR 5 its.length:=⟨_,rfl⟩;rw [←U];have ys:h0.length≤9:=by rw [U];exact rW _
  have x6:=Hh U;clear U
  go_upto_region 16 with fail
  clear yf
  go_loopw [3,49] (fun v i wr=>∃ (j:Nat),i=Iz j∧j≤its.length∧v=.string (bC (h0++(P0.take j).flatten))∧Below w2.heap.size w2 wr) (fun _ i _=>its.length - (intOf i).toNat)
  case atStart=>exact ⟨0,rfl,Av _,by simp,Br _ _⟩
  case round=>
   obtain ⟨j,rfl,hj,rfl,hB⟩:=hrel;have l:=I.o.trans (hB.mono I.o.size);have ck:wr.cell? ⟨w.heap.size,0,none⟩=_∧wr.cell? ⟨w.heap.size,4,none⟩=_:=⟨(l.cell (p:=⟨w.heap.size,0,none⟩) WL.o).trans CK.o.1,(l.cell (p:=⟨w.heap.size,4,none⟩) WL.o).trans CK.o.2.2.2.2.1⟩
   by_cases xz:j<its.length
   ·have xs:(j:Int)<(its.length:Int):=by omega
    have y4:(0:Int)≤(j:Int):=by omega
    obtain ⟨-,-,-,b,A,y,a3,l3,c3,a4,l4,c4,rfl,yg,C,xi,k0,k1,k2,k3,k4,k5⟩:=H.o.at xz;have a:=B1.o.trans (l.mono B1.o.size);have z:=HS.o b yg;have q0:=(a.cell (p:=⟨b,A+j * 6,none⟩) z).trans k0;have q1:=(a.cell (p:=⟨b,A+j * 6+1,none⟩) z).trans k1;have q2:=(a.cell (p:=⟨b,A+j * 6+2,none⟩) z).trans k2;have q3:=(a.cell (p:=⟨b,A+j * 6+3,none⟩) z).trans k3;have q4:=(a.cell (p:=⟨b,A+j * 6+4,none⟩) z).trans k4;have q5:=(a.cell (p:=⟨b,A+j * 6+5,none⟩) z).trans k5;clear k0 k1 k2 k3 k4 k5;have xo:=HV.o.1 y (Ao C);have xq:=yd.o.2 y (Ao C);obtain ⟨-,-,-,Z,on,rfl,yh,ye,y7⟩:=HN.o.at (j:=j) (by have:=x5.o;omega)
    have xw:=(a.cell (p:=⟨Z,on+j,none⟩) (HS.o Z yh)).trans ye;have yu:j<ns.length:=by have:=x5.o;omega
    obtain ⟨O,xu⟩:∃s,s=ns[j]:=⟨_,rfl⟩;have x7:ns[j]?=some O:=by rw [xu];exact Ac yu
    rw [←xu] at xw;have xr:P0[j]?=some (fT O++aU d y):=by rw [HP.o,List.getElem?_zipWith,x7,C]
    have yq:=dY (HV.o.2.2.2 O (Ao x7));have y6:(j:Int)<(l1:Int):=by have:=yv.o;have:=x5.o;omega
    have yk:=HS.o Z yh;have yl:w.cell? ⟨Z,on+j,none⟩=some (.string O):=by rw [xu];exact ye
    clear ye xu x7 xw;obtain ⟨Q,hQ⟩:∃Q,Q=(P0.take j).flatten:=⟨_,rfl⟩;have E:=jN xr;have X:=lJ P0 (j+1);rw [E,Lg] at X;rw [←hQ] at E X ⊢;have yo:Q.length≤35184372088832:=by have:=xm.o;omega
    have xt:(aU d y).length≤35184372088832:=by rw [Lg] at X;have:=xm.o;omega
    have WR:=Hh (fun (g:World) (R:Below w.heap.size w g)=>HI.o D S _ y g (xi.same fun b xb=>R.block b (HS.o b xb)) (fun b xb=>Ll (HS.o b xb) R.size) xo xq xt)
    have bA:=a.alloc (o:=.cells #[Iz y.kind,.bool y.bool,Iz y.num,.string y.text,.slice a3 l3 c3,.slice a4 l4 c4] 28) a.size;have W:=aA (Hn wr (.cells #[Iz y.kind,.bool y.bool,Iz y.num,.string y.text,.slice a3 l3 c3,.slice a4 l4 c4] 28));have q:wr.heap.size<(wr.alloc (.cells #[Iz y.kind,.bool y.bool,Iz y.num,.string y.text,.slice a3 l3 c3,.slice a4 l4 c4] 28)).heap.size:=by simp
    have J:=hB.alloc (o:=.cells #[Iz y.kind,.bool y.bool,Iz y.num,.string y.text,.slice a3 l3 c3,.slice a4 l4 c4] 28) hB.size;have y3:w.heap.size<wr.heap.size:=Ll xe hB.size;obtain ⟨Y,hY⟩:∃Y,Y=aU d y:=⟨_,rfl⟩;rw [←hY] at xt E WR;have xy:=Hh E;have HB:=Hh hB;clear xr X E C xi xo xq hY hB l a hQ
    go_upto_region 18 with fail
    generalize wr.alloc (.cells #[Iz y.kind,.bool y.bool,Iz y.num,.string y.text,.slice a3 l3 c3,.slice a4 l4 c4] 28)=V at bA J W q ⊢;have BA:=Hh (Ai bA J);have CA:=Hh (fun g (R:Below V.heap.size V g)=>(show g.cell? ⟨wr.heap.size,0,none⟩=some (Iz y.kind)∧g.cell? ⟨wr.heap.size,1,none⟩=some (.bool y.bool)∧g.cell? ⟨wr.heap.size,2,none⟩=some (Iz y.num)∧g.cell? ⟨wr.heap.size,3,none⟩=some (.string y.text)∧g.cell? ⟨wr.heap.size,4,none⟩=some (.slice a3 l3 c3)∧g.cell? ⟨wr.heap.size,5,none⟩=some (.slice a4 l4 c4) from ⟨(R.cell (p:=⟨wr.heap.size,0,none⟩) q).trans W.1,(R.cell (p:=⟨wr.heap.size,1,none⟩) q).trans W.2.1,(R.cell (p:=⟨wr.heap.size,2,none⟩) q).trans W.2.2.1,(R.cell (p:=⟨wr.heap.size,3,none⟩) q).trans W.2.2.2.1,(R.cell (p:=⟨wr.heap.size,4,none⟩) q).trans W.2.2.2.2.1,(R.cell (p:=⟨wr.heap.size,5,none⟩) q).trans W.2.2.2.2.2⟩))
    have cx:V.cell? ⟨w.heap.size,0,none⟩=some (Iz 5)∧V.cell? ⟨w.heap.size,4,none⟩=some (.slice (some ⟨Z,on,none⟩) l1 c1):=⟨(J.cell (p:=⟨w.heap.size,0,none⟩) xe).trans ((I.o.cell (p:=⟨w.heap.size,0,none⟩) WL.o).trans CK.o.1),(J.cell (p:=⟨w.heap.size,4,none⟩) xe).trans ((I.o.cell (p:=⟨w.heap.size,4,none⟩) WL.o).trans CK.o.2.2.2.2.1)⟩;clear bA J ck W;have y1:=Hh yl;have xk:V.cell? ⟨Z,on+j,none⟩=some (.string O):=(BA.o.2.cell (p:=⟨Z,on+j,none⟩) (by have h1:=B1.o.size;have h2:=I.o.size;show Z<_;omega)).trans ((I.o.cell (p:=⟨Z,on+j,none⟩) (by have h1:=B1.o.size;show Z<_;omega)).trans ((B1.o.cell (p:=⟨Z,on+j,none⟩) yk).trans y1.o))
    have yx:IntKind.u64.wrap (O.size:Int)=(O.size:Int):=by rw [Bi];omega
    have yr:=Hh (RT.o O.size yq);have x9:¬9223372036854775807<(bC (cR 3 O.size)).size+O.size:=by rw [bY,eH];have:=nB O.size;omega
    have yt:¬9223372036854775807<(bC (h0++Q)).size+(bC (cR 3 O.size)++O).size:=by rw [Cq,bY,bY,eH,Lg];have:=nB O.size;omega
    have yw:¬9223372036854775807<(bC (h0++Q)++(bC (cR 3 O.size)++O)).size+(bC Y).size:=by rw [Cq,Cq,bY,bY,bY,eH,Lg];have:=nB O.size;omega
    go_upto_region 19 with fail
    refine aI (fun w'=>w'.cell? ⟨w.heap.size,4,none⟩=some (.slice (some ⟨Z,on,none⟩) l1 c1)∧w'.cell? ⟨Z,on+j,none⟩=some (.string O)) [2,5,6,10,13] (.take 0 (.take 1 (.take 2 (.take 3 (.take 4 (.take 5 (.take 6 (.take 9 (.take 10 (.take 11 (.take 12 (.take 13 (.ask 7 true (.ask 8 true (.ask 14 false (.ask 15 false (.ask 16 false .stop .stop) .stop) .stop) .stop) .stop))))))))))))) (by kernel_rfl) (by kernel_rfl) (fun _ d _ _ _ h=>by cases d <;> exact h) ⟨cx.2,xk⟩ ?_
    have xn:Below V.heap.size V V.drew:=(Br _ _).drew;have F:V.drew.cell? ⟨w.heap.size,4,none⟩=some (.slice (some ⟨Z,on,none⟩) l1 c1)∧V.drew.cell? ⟨Z,on+j,none⟩=some (.string O):=⟨cx.2,xk⟩;have xc:w.heap.size<V.drew.heap.size∧Z<V.drew.heap.size:=⟨cD F.1,cD F.2⟩;clear cx xk;generalize V.drew=wd at xn F xc ⊢
    iterate 2 (refine aF _ ?_ rfl rfl ?_ (fun K c=>?_);rotate_left;(intro w0;go_simp;(try rfl));(go_simp;refine c _ ?_;clear c K))
    refine aM _ ?_ rfl rfl (by decide) ?_ (fun K c=>?_);rotate_left;(intro w0 N;obtain ⟨s1,-⟩:=N;go_simp;(try rfl));(go_simp;refine c _ ?_;clear c K)
    iterate 2 (refine aF _ ?_ rfl rfl ?_ (fun K c=>?_);rotate_left;(intro w0;go_simp;(try rfl));(go_simp;refine c _ ?_;clear c K))
    refine aM _ ?_ rfl rfl (by decide) ?_ (fun K c=>?_);rotate_left;(intro w0 N;obtain ⟨-,s1⟩:=N;go_simp;(try rfl));(go_simp;refine c _ ?_;clear c K)
    iterate 2 (refine aF _ ?_ rfl rfl ?_ (fun K c=>?_);rotate_left;(intro w0;go_simp;(try rfl));(go_simp;refine c _ ?_;clear c K))
    refine aM _ ?_ rfl rfl (by decide) ?_ (fun K c=>?_);rotate_left;(intro w0 N;obtain ⟨s1,-⟩:=N;go_simp;(try rfl));(go_simp;refine c _ ?_;clear c K)
    iterate 2 (refine aF _ ?_ rfl rfl ?_ (fun K c=>?_);rotate_left;(intro w0;go_simp;(try rfl));(go_simp;refine c _ ?_;clear c K))
    refine aM _ ?_ rfl rfl (by decide) ?_ (fun K c=>?_);rotate_left;(intro w0 N;obtain ⟨-,s1⟩:=N;go_simp;(try rfl));(go_simp;refine c _ ?_;clear c K)
    refine aH _ rfl trivial ?_;go_wp2_with fail;refine Seg.mk ⟨F,?_⟩;refine aH _ rfl trivial ?_;go_wp2_with (go_at_call 101;(with_reducible refine (yr.o _).mono ?_);rintro e w5 ⟨rfl,xd⟩);refine Seg.mk ⟨⟨(xd.cell (p:=⟨w.heap.size,4,none⟩) xc.1).trans F.1,(xd.cell (p:=⟨Z,on+j,none⟩) xc.2).trans F.2⟩,?_⟩;refine aB _ rfl trivial ?_;go_wp2_with fail;refine Seg.mk ?_;refine aB _ rfl trivial ?_;go_wp2_with fail;refine Seg.mk ?_;refine bQ _ rfl trivial ?_;have xf:=xn.trans (xd.mono xn.size);have ca:=CA.o _ xf;have yi:=BA.o.1.trans (xf.mono BA.o.1.size);have xv:=Hh xf;clear xd xf F xc yx
    go_wp2_with (go_at_call 68;(with_reducible refine (WR.o _ yi).mono ?_);rintro e wn ⟨rfl,yj⟩;(have xx:=xv.o.trans (yj.mono xv.o.size)))
    go_roundw
    case rel=>
     refine ⟨j+1,by go_num,by omega,?_,BA.o.2.trans (xx.mono BA.o.2.size)⟩
     rw [xy.o];simp only [kW,Aj,BZ]
    case measure=>simp [intOf];omega
   ·have xs:¬ (j:Int)<(its.length:Int):=by omega
    have yc:P0.length≤its.length:=by rw [HP.o];simp [Dg];try omega
    rw [Ak (by omega)]
    clear yc
    go_wp2
    go_ret
    exact ⟨by rw [←x6.o];rfl,B1.o.trans (l.mono B1.o.size)⟩
theorem wQ:∀d,vZ d
 | 0=>fun D S c x w h b a=>by cases a
 | d+1=>GR (wQ d)
def csS (x:ND):Bt:=if aC 8 x then (if 65536<(aU 8 x).length then ⟨#[]⟩ else bC (aU 8 x)) else ⟨#[]⟩
def csE (x:ND):Int:=if aC 8 x then (if 65536<(aU 8 x).length then 3 else 0) else 1
theorem yJ {x:ND} (h:aC 8 x=false):csS x=⟨#[]⟩∧csE x=1:=by unfold csS csE;rw [h];exact ⟨rfl,rfl⟩
theorem tV {x:ND} (h:aC 8 x=true) (a:65536<(aU 8 x).length):csS x=⟨#[]⟩∧csE x=3:=by unfold csS csE;rw [h,Am rfl,Am rfl,Am a,Am a];exact ⟨rfl,rfl⟩
theorem pP {x:ND} (h:aC 8 x=true) (a:¬65536<(aU 8 x).length):csS x=bC (aU 8 x)∧csE x=0:=by unfold csS csE;rw [h,Am rfl,Am rfl,Ae a,Ae a];exact ⟨rfl,rfl⟩
theorem aEt (x:ND):(csS x).size≤65536:=by
 unfold csS
 split
 ·split
  ·exact Av _
  ·rw [bY];omega
 ·exact Av _
def OR (x:ND) (w:World) (e:Ending) (w':World):Prop:=e=.returned (.tuple #[.string (csS x),Iz (csE x)])∧Below w.heap.size w w'
theorem ZT {D:Nat} {S:Nat→Prop} (Q:Vl) (x:ND) (w:World) (h:aD D S w Q x) (F:∀b,S b→b<w.heap.size) (U:iM D x) (Y:aC 8 x=true→aP 8 x=true∧(aU 8 x).length≤35184372088832) (X:jR w):Calls prog 36 #[.agg Q.toArray] w (OR x w):=by
 obtain ⟨H,J,c1,K,G,c2,rfl⟩:=h.slices;have u:=(Br w.heap.size w).alloc (o:=.cells #[Iz x.kind,.bool x.bool,Iz x.num,.string x.text,.slice H J c1,.slice K G c2] 28) (Lr _);have M:=aA (Hn w (.cells #[Iz x.kind,.bool x.bool,Iz x.num,.string x.text,.slice H J c1,.slice K G c2] 28));have n:w.heap.size<(w.alloc (.cells #[Iz x.kind,.bool x.bool,Iz x.num,.string x.text,.slice H J c1,.slice K G c2] 28)).heap.size:=by simp
 obtain ⟨R,a⟩:∃W,W=w.alloc (.cells #[Iz x.kind,.bool x.bool,Iz x.num,.string x.text,.slice H J c1,.slice K G c2] 28):=⟨_,rfl⟩;rw [←a] at u M n;have V:=Hh (jF _ x R (h.same fun b r=>u.block b (F b r)) (fun b r=>Ll (F b r) u.size) U (X.below u))
 have I:=Hh u;have t:=Hh M;have Z:=Hh h;have T:=Hh F;have HW:=Hh Y;have WL:=Hh n;clear h F U Y X u n;cases hv:aC 8 x with
 | false=>
  rw [hv] at V;obtain ⟨g,k⟩:=yJ hv;have i:=Hh (Ai g k);clear hv g k
  go_enter func36,ntmps36
  go_upto_region 1 with fail
  rw [←a];clear a
  go_wp2_with (go_at_call 32;(with_reducible refine (V.o).mono ?_);rintro e L ⟨rfl,c⟩)
  go_ret2
  exact ⟨by rw [i.o.1,i.o.2];rfl,I.o.trans (c.mono I.o.size)⟩
 | true=>
  rw [hv] at V;obtain ⟨A,j⟩:=HW.o hv;have O:=Hh hv;have P:=Hh A;have C:=Hh j;clear hv A j
  go_enter func36,ntmps36
  go_upto_region 1 with fail
  rw [←a];clear a
  go_upto_region 3 with ((with_reducible refine (V.o).mono ?_);rintro e L ⟨rfl,c⟩)
  have d:=I.o.trans (c.mono I.o.size);have l:∀q v,R.cell? ⟨w.heap.size,q,none⟩=some v→L.cell? ⟨w.heap.size,q,none⟩=some v:=fun q v hq=>(c.cell (p:=⟨w.heap.size,q,none⟩) WL.o).trans hq
  have d0:=l 0 _ t.o.1;have d1:=l 1 _ t.o.2.1;have d2:=l 2 _ t.o.2.2.1;have d3:=l 3 _ t.o.2.2.2.1;have d4:=l 4 _ t.o.2.2.2.2.1;have d5:=l 5 _ t.o.2.2.2.2.2;have N:=Hh (wQ 8 D S _ x L (Z.o.same fun b r=>d.block b (T.o b r)) (fun b r=>Ll (T.o b r) d.size) O.o P.o C.o)
  obtain ⟨s,E⟩:∃s:Bt,s=bC (aU 8 x):=⟨_,rfl⟩;rw [←E] at N;have B:s.size=(aU 8 x).length:=by rw [E,bY]
  have f:=Hh d;clear M l c d
  by_cases z:65536<s.size
  ·have y:(65536:Int)<(s.size:Int):=by omega
   obtain ⟨g,k⟩:=tV O.o (by omega)
   have i:=Hh (Ai g k);clear g k E B z
   go_wp2_with (go_at_call 68;(with_reducible refine (N.o).mono ?_);rintro e w3 ⟨rfl,m⟩)
   go_ret2
   exact ⟨by rw [i.o.1,i.o.2];rfl,f.o.trans (m.mono f.o.size)⟩
  ·have y:¬ (65536:Int)<(s.size:Int):=by omega
   obtain ⟨g,k⟩:=pP O.o (by omega)
   have i:=Hh (Ai (g.trans E.symm) k);clear g k E B z
   go_wp2_with (go_at_call 68;(with_reducible refine (N.o).mono ?_);rintro e w3 ⟨rfl,m⟩)
   go_ret2
   exact ⟨by rw [i.o.1,i.o.2];rfl,f.o.trans (m.mono f.o.size)⟩
end Go.Proofs.YtncdpanfefnjlaaGreatDoor