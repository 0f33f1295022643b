import Derived.Test.YtncdpanfefnjlaaGreatDoorLst
set_option linter.unusedVariables false
set_option linter.unusedSimpArgs false
set_option maxHeartbeats 3200000
set_option maxRecDepth 100000
namespace Go.Proofs.YtncdpanfefnjlaaGreatDoor
open Go.Proofs.Tryz
open Go Go.Maps Go.ChangeShapes Go.WideShapes Go.ChangeAt Go.RowKit
theorem oBz {b i:Nat} {w:World} {e:TypeId} {size n:Nat} {v:Value} {d:List Value} (h:w.ownsRow b e size v n d) (l:i≤b):w.ownsRow i e size v n d:=by
 obtain ⟨f,k | ⟨g,a,c,j,m,r⟩⟩:=h
 ·exact ⟨f,.inl k⟩
 ·exact ⟨f,.inr ⟨g,a,c,j,by omega,r⟩⟩
theorem KF (w:World):(zeroValue 3).run prog w=.ok (Iz 0) w:=by kernel_rfl
theorem WU {n:ND} {ls:List Bt} {t l:Bt} {j:Nat} (h:ls[j]?=some l):bL n (ls.take (j+1)) t=AA (bL n (ls.take j) t) l (tN t):=by
 unfold bL;rw [Bf,h,List.foldl_append]
 rfl
theorem XG {ns:List Bt} {its:List ND} {s:Bt} {v:ND} {i:Nat} (a:ns.Nodup) (h:ns[i]?=some s):AA (.mk 5 false 0 ⟨#[]⟩ ns its) s v=.mk 5 false 0 ⟨#[]⟩ ns (its.set i v):=by
 unfold AA;rw [show (ND.mk 5 false 0 ⟨#[]⟩ ns its).names=ns from rfl,mD a h]
 rfl
theorem XH {ns:List Bt} {its:List ND} {s:Bt} {v:ND} (h:s ∉ ns):AA (.mk 5 false 0 ⟨#[]⟩ ns its) s v=.mk 5 false 0 ⟨#[]⟩ (ns++[s]) (its++[v]):=by
 unfold AA;rw [show (ND.mk 5 false 0 ⟨#[]⟩ ns its).names=ns from rfl]
 cases hf:ns.findIdx? (fun t=>decide (t=s)) with
 | none=>rfl
 | some i=>exact absurd (Ao (fM hf).1) h
theorem QW {ns:List Bt} {s:Bt} (c:ns.Nodup) (h:s ∉ ns):(ns++[s]).Nodup:=by
 rw [List.nodup_append];exact ⟨c,by simp,fun a f b d e=>by rw [At.1 d] at e;exact h (e ▸ f)⟩
theorem GH {d:Nat} {S:Nat→Prop} (cs:Vl) (x:ND) (vl:Value) (ls:List Bt) (t:Bt) (w:World) (h:aD (d+1) S w cs x) (hS:∀b,S b→b<w.heap.size) (hx:cO 7 x) (hl:bH S w vl ls) (u6:ls.length≤1000000) (hd:1≤d) (ht:t.size≤100) :
 Calls prog 26 #[.agg cs.toArray,vl,.string t] w (JF (d+1) w (bL x ls t)):=by
 obtain ⟨a1,l1,c1,a2,l2,c2,rfl⟩:=h.slices;have zm:aC 8 x=true:=(cK hx.kind).2 hx;rw [hx.kind,hx.bool,hx.num,hx.text] at h;rw [hx.kind,hx.bool,hx.num,hx.text];obtain ⟨G,xy⟩:∃W,W=(w.alloc (.cells #[Iz 5,.bool false,Iz 0,.string ⟨#[]⟩,.slice a1 l1 c1,.slice a2 l2 c2] 28)).alloc (.cells Z6 28):=⟨_,rfl⟩;have z1:(w.alloc (.cells #[Iz 5,.bool false,Iz 0,.string ⟨#[]⟩,.slice a1 l1 c1,.slice a2 l2 c2] 28)).heap.size=w.heap.size+1:=by simp
 have b1:Below w.heap.size w G:=by rw [xy];exact ((Br _ _).alloc (Lr _) _).alloc (by simp) _
 have k0:G.heap[w.heap.size]?=some (.cells #[Iz 5,.bool false,Iz 0,.string ⟨#[]⟩,.slice a1 l1 c1,.slice a2 l2 c2] 28 (0,0)):=by rw [xy];exact (Bj _ _ _ (by omega)).trans (Hn _ _)
 have k1:G.heap[w.heap.size+1]?=some (.cells Z6 28 (0,0)):=by rw [xy,←z1];exact Hn _ _
 have z3:G.heap.size=w.heap.size+2:=by rw [xy];simp
 have zk:=dS 8 (d+1) x zm;obtain ⟨vn,vi,e,-,zo,zp⟩:=h;simp only [Bu,Dd,Dj] at e;obtain ⟨-,-,-,-,rfl,rfl⟩:=e;obtain ⟨al,cl,rfl,uu,uv,-⟩:=id hl;have y5:=Hh hl;have us:=Hh zo;have ug:=Hh zp;have HS:=Hh hS;have HX:=Hh hx;have y7:=Hh zk;have K0:=Hh k0;have K1:=Hh k1;have B1:=Hh b1;have Z3:=Hh z3;have NT:=Hh (fun I:World=>gN t I)
 have xv:=Hh (fun (h:True)=>((cJ S G 3 false 0 t (by unfold maxLen;omega)).deeper hd:aD d S G [Iz 3,.bool false,Iz 0,.string t,Sn,Sn] (tN t)))
 have xv:=Hh (xv.o trivial);have uy:=@run_makeMap prog;have x9:=Hh HX.o.len;clear hS hx hl zo zp zk zm b1 k0 k1 z1 z3 ht
 go_enter func26,ntmps26
 go_upto_region 1 with fail
 rw [←xy];clear xy;have U:Below G.heap.size G G.drew:=(Br _ _).drew;have xe:=Hh (fun (I:World) (O:Below G.heap.size G I) (b:Nat) (uh:b<w.heap.size)=>(O.block b (by have:=Z3.o;omega)).trans (B1.o.block b uh))
 have CK:=Hh (fun (I:World) (O:Below G.heap.size G I)=>Ai (aA ((O.block _ (Aa K0.o)).trans K0.o)).2.2.2.2.1 (aA ((O.block _ (Aa K0.o)).trans K0.o)).2.2.2.2.2)
 refine aI (fun w'=>w'.cell? ⟨w.heap.size,4,none⟩=some (.slice a1 l1 c1)∧w'.cell? ⟨w.heap.size,5,none⟩=some (.slice a2 l2 c2)) [1,4] (.take 0 (.take 1 (.take 3 (.take 4 (eP.join true (.ask 2 true (.ask 5 false (.take 6 (.ask 7 false .stop .stop)) (.ask 7 true (.ask 5 false (.take 6 .stop) .stop) .stop)) (.ask 7 true (.ask 2 true (.ask 5 false (.take 6 .stop) .stop) .stop) .stop)) (.ask 8 false .stop .stop)))))) (by kernel_rfl) (by kernel_rfl) (fun _ d _ _ _ h=>by cases d <;> exact h) (CK.o _ U) ?_
 generalize G.drew=wd at U ⊢;refine aF _ ?_ rfl rfl ?_ (fun K F=>?_);rotate_left;(intro w0;go_simp;(try rfl));(go_simp;refine F _ ?_;clear F K)
 refine aM _ ?_ rfl rfl (by decide) ?_ (fun K F=>?_);rotate_left;(intro w0 yt;go_simp;(try rfl));(go_simp;refine F _ ?_;clear F K)
 refine aF _ ?_ rfl rfl ?_ (fun K F=>?_);rotate_left;(intro w0;go_simp;(try rfl));(go_simp;refine F _ ?_;clear F K)
 refine aM _ ?_ rfl rfl (by decide) ?_ (fun K F=>?_);rotate_left;(intro w0 yt;go_simp;(try rfl));(go_simp;refine F _ ?_;clear F K)
 refine dW [7,17,20,21] (fun vs I=>∃ (X:Nat) (v1 v2:Value) (A:List NC),vs=[.pointer (some ⟨X,0,none⟩),v1,v2,.agg #[Iz 5,.bool false,Iz 0,.string ⟨#[]⟩,v1,v2]]∧G.heap.size≤X∧I.heap[X]?=some (.cells Z6 28 (0,0))∧jS 9 G.heap.size I v1 x.names∧I.ownsRow G.heap.size 28 6 v2 A.length (cM A)∧v1.ownBlock ≠ some X∧v2.ownBlock ≠ some X∧(∀b,v1.ownBlock=some b→v2.ownBlock ≠ some b)∧aG A=x.items∧(∀y,y ∈ A→aD d S I y.1 y.2)∧Below G.heap.size G I) ?_ ?_
 ·have CT:=Hh (fun (I:World) (O:Below G.heap.size G I)=>TA _ _ I (us.o.same fun b q=>xe.o _ O b (HS.o b q)) y7.o.1)
  have CI:=Hh (fun (I:World) (O:Below G.heap.size G I)=>ZV _ _ I (ug.o.same (fun b q=>xe.o _ O b (HS.o b q)) fun cs y q=>q.same fun b q'=>xe.o _ O b (HS.o b q')) y7.o.2.1)
  refine aH _ rfl ?_ ?_;rotate_left
  ·go_wp2_with (go_at_call 48;(with_reducible refine (CT.o _ U).mono ?_);rintro e W2 ⟨v1,rfl,C,N⟩;obtain ⟨a5,c5,rfl⟩:∃a c,v1=Value.slice a x.names.length c:=(by obtain ⟨a,c,e,_⟩:=C.strs;exact ⟨a,c,e⟩))
   have B2:=U.trans (N.mono U.size);refine Seg.mk ⟨CK.o _ B2,?_⟩;refine aB _ rfl ?_ ?_;rotate_left
   ·go_wp2_with (go_at_call 49;(with_reducible refine (CI.o _ B2).mono ?_);rintro e W5 ⟨v2,A,rfl,f,hA,xd,D⟩;obtain ⟨Y,Z,rfl⟩:=tF f)
    have B5:=B2.trans (D.mono B2.size);refine Seg.mk ?_;refine aF _ ?_ rfl rfl ?_ (fun K F=>?_);rotate_left;(intro w0;go_simp;(try rfl));(go_simp;refine F _ ?_;clear F K)
    have bz:=(Br W5.heap.size W5).alloc (o:=.cells Z6 28) (Lr _);have gz:=Hn W5 (.cells Z6 28);refine aB _ rfl trivial ?_
    go_wp2_with fail
    generalize hW:W5.alloc (.cells Z6 28)=W7 at bz gz ⊢;clear hW;have B7:=B5.trans (bz.mono B5.size);refine Seg.mk ?_;have xr:=U.size;have x5:=B2.size;have ya:=B5.size;have xg:=(C.below D).below bz;have xi:=fQ f bz;have x8:=gz;have xj:∀b,(Value.slice a5 x.names.length c5).ownBlock=some b→_:=fun b e=>C.1.lt b e
    have xk:∀b,(Value.slice Y A.length Z).ownBlock=some b→_:=fun b e=>f.lt b e
    have zd:=Aa gz;have f1:=N.size;have f2:=D.size;have f3:=bz.size;exact aN [.pointer (some ⟨W5.heap.size,0,none⟩),.slice a5 x.names.length c5,.slice Y A.length Z,.agg #[Iz 5,.bool false,Iz 0,.string ⟨#[]⟩,.slice a5 x.names.length c5,.slice Y A.length Z]] ⟨W5.heap.size,_,_,A,rfl,ya,x8,xg.base xr,oBz xi x5,(fun e=>by have:=xj _ e;omega),(fun e=>by have:=xk _ e;omega),(fun b e e'=>by have:=xj _ e;have:=xk _ e';omega),hA,(fun y hy=>(xd y hy).same fun b O=>(xe.o _ B7 b (HS.o b O)).trans (xe.o _ B2 b (HS.o b O)).symm),B7⟩ (by simp only [gJ,Act.put,Aq,Az,Ba])
   ·have bz:=(Br W2.heap.size W2).alloc (o:=.cells Z6 28) (Lr _)
    have gz:=Hn W2 (.cells Z6 28);refine aH _ rfl trivial ?_
    go_wp2_with fail
    generalize hW:W2.alloc (.cells Z6 28)=W7 at bz gz ⊢;clear hW;have B7:=B2.trans (bz.mono B2.size);refine Seg.mk ⟨CK.o _ B7,?_⟩;refine aB _ rfl trivial ?_
    go_wp2_with (go_at_call 49;(with_reducible refine (CI.o _ B7).mono ?_);rintro e W5 ⟨v2,A,rfl,f,hA,xd,D⟩;obtain ⟨Y,Z,rfl⟩:=tF f)
    have B5:=B7.trans (D.mono B7.size);refine Seg.mk ?_;refine aF _ ?_ rfl rfl ?_ (fun K F=>?_);rotate_left;(intro w0;go_simp;(try rfl));(go_simp;refine F _ ?_;clear F K)
    have xr:=U.size;have x5:=B7.size;have ya:=B2.size;have xg:=(C.below bz).below D;have xi:=f;have x8:=((D.block _ (Aa gz)).trans gz);have xj:∀b,(Value.slice a5 x.names.length c5).ownBlock=some b→_:=fun b e=>C.1.lt b e
    have xk:∀b,(Value.slice Y A.length Z).ownBlock=some b→_:=fun b e=>f.lt b e
    have zd:=Aa gz;have f1:=N.size;have f2:=bz.size;have f3:=D.size;exact aN [.pointer (some ⟨W2.heap.size,0,none⟩),.slice a5 x.names.length c5,.slice Y A.length Z,.agg #[Iz 5,.bool false,Iz 0,.string ⟨#[]⟩,.slice a5 x.names.length c5,.slice Y A.length Z]] ⟨W2.heap.size,_,_,A,rfl,ya,x8,xg.base xr,oBz xi x5,(fun e=>by have:=xj _ e;omega),(fun e=>by have:=xk _ e;omega),(fun b e e'=>by have:=xj _ e;have:=xk _ e';omega),hA,(fun y hy=>(xd y hy).same fun b O=>(xe.o _ B5 b (HS.o b O)).trans (xe.o _ B7 b (HS.o b O)).symm),B5⟩ (by simp only [gJ,Act.put,Aq,Az,Ba])
  ·have bz:=(Br wd.heap.size wd).alloc (o:=.cells Z6 28) (Lr _)
   have gz:=Hn wd (.cells Z6 28);refine aH _ rfl trivial ?_
   go_wp2_with fail
   generalize hW:wd.alloc (.cells Z6 28)=W7 at bz gz ⊢;clear hW;have B7:=U.trans (bz.mono U.size);refine Seg.mk ⟨CK.o _ B7,?_⟩;refine aH _ rfl trivial ?_
   go_wp2_with (go_at_call 48;(with_reducible refine (CT.o _ B7).mono ?_);rintro e W2 ⟨v1,rfl,C,N⟩;obtain ⟨a5,c5,rfl⟩:∃a c,v1=Value.slice a x.names.length c:=(by obtain ⟨a,c,e,_⟩:=C.strs;exact ⟨a,c,e⟩))
   have B2:=B7.trans (N.mono B7.size);refine Seg.mk ⟨CK.o _ B2,?_⟩;refine aB _ rfl trivial ?_
   go_wp2_with (go_at_call 49;(with_reducible refine (CI.o _ B2).mono ?_);rintro e W5 ⟨v2,A,rfl,f,hA,xd,D⟩;obtain ⟨Y,Z,rfl⟩:=tF f)
   have B5:=B2.trans (D.mono B2.size);refine Seg.mk ?_;refine aF _ ?_ rfl rfl ?_ (fun K F=>?_);rotate_left;(intro w0;go_simp;(try rfl));(go_simp;refine F _ ?_;clear F K)
   have xr:=B7.size;have x5:=B2.size;have ya:=U.size;have xg:=C.below D;have xi:=f;have x8:=((D.block _ (Aa ((N.block _ (Aa gz)).trans gz))).trans ((N.block _ (Aa gz)).trans gz));have xj:∀b,(Value.slice a5 x.names.length c5).ownBlock=some b→_:=fun b e=>C.1.lt b e
   have xk:∀b,(Value.slice Y A.length Z).ownBlock=some b→_:=fun b e=>f.lt b e
   have zd:=Aa gz;have f1:=bz.size;have f2:=N.size;have f3:=D.size;exact aN [.pointer (some ⟨wd.heap.size,0,none⟩),.slice a5 x.names.length c5,.slice Y A.length Z,.agg #[Iz 5,.bool false,Iz 0,.string ⟨#[]⟩,.slice a5 x.names.length c5,.slice Y A.length Z]] ⟨wd.heap.size,_,_,A,rfl,ya,x8,xg.base xr,oBz xi x5,(fun e=>by have:=xj _ e;omega),(fun e=>by have:=xk _ e;omega),(fun b e e'=>by have:=xj _ e;have:=xk _ e';omega),hA,(fun y hy=>(xd y hy).same fun b O=>(xe.o _ B5 b (HS.o b O)).trans (xe.o _ B2 b (HS.o b O)).symm),B5⟩ (by simp only [gJ,Act.put,Aq,Az,Ba])
 ·rintro vs I ⟨X,v1,v2,A,rfl,ui,hz,C,f,s1,s2,s3,hA,yo,yi⟩
  simp only [gJ,Act.put,Aq,Az,Ba];obtain ⟨a5,c5,rfl⟩:∃a c,v1=Value.slice a x.names.length c:=by obtain ⟨a,c,e,_⟩:=C.strs;exact ⟨a,c,e⟩
  obtain ⟨Y,Z,rfl⟩:=tF f;have yh:=aO I X (Iz 5) (.bool false) (Iz 0) (.string ⟨#[]⟩) (.slice a5 x.names.length c5) (.slice Y A.length Z);have u9:=Z3.o;have zj:=Aa hz;have zt:Hid (A.length=x.items.length):=Hh (by rw [←hA,aG,Bk])
  obtain ⟨w7,yj⟩:∃W,W=(dJ I X (Iz 5) (.bool false) (Iz 0) (.string ⟨#[]⟩) (.slice a5 x.names.length c5) (.slice Y A.length Z)).alloc (.map #[] 0):=⟨_,rfl⟩;have ba:=(Br (dJ I X (Iz 5) (.bool false) (Iz 0) (.string ⟨#[]⟩) (.slice a5 x.names.length c5) (.slice Y A.length Z)).heap.size (dJ I X (Iz 5) (.bool false) (Iz 0) (.string ⟨#[]⟩) (.slice a5 x.names.length c5) (.slice Y A.length Z))).alloc (o:=.map #[] 0) (Lr _);have xc:=World.ownsMap_made (H:=Unit) (dJ I X (Iz 5) (.bool false) (Iz 0) (.string ⟨#[]⟩) (.slice a5 x.names.length c5) (.slice Y A.length Z)) prog 9 (plainElem (H:=Unit) prog 3);rw [←yj] at ba xc;have yn:∀b,(Value.slice a5 x.names.length c5).ownBlock=some b→b<I.heap.size:=fun b e=>(C.1.lt b e).2
  have yr:∀b,(Value.slice Y A.length Z).ownBlock=some b→b<I.heap.size:=fun b e=>(f.lt b e).2
  have x7:(dJ I X (Iz 5) (.bool false) (Iz 0) (.string ⟨#[]⟩) (.slice a5 x.names.length c5) (.slice Y A.length Z)).heap.size=I.heap.size:=by simp [dJ]
  have hP:TxS prog 28 9 3 d G.heap.size S G w7 X I.heap.size (.slice a5 x.names.length c5) (.slice Y A.length Z) x.names A []:=by
   have xa:Below G.heap.size G (dJ I X (Iz 5) (.bool false) (Iz 0) (.string ⟨#[]⟩) (.slice a5 x.names.length c5) (.slice Y A.length Z)):=fO yi (Lr _) yh fun b e=>by have:=Ab (show some X=some b from e);omega
   refine ⟨(ba.block _ (by omega)).trans (dG hz _ _ _ _ _ _),ui,(C.kept yh (.inr s1)).below ba,fQ (f.kept yh (.inr s2)) ba,s1,s2,s3,?_,⟨yi.size,by omega⟩,fun e=>by have:=yn _ e;omega,fun e=>by have:=yr _ e;omega,fun y hy=>(yo y hy).same fun b q=>(yi.block b (by have:=HS.o b q;omega)).symm,fun b q=>by have:=HS.o b q;omega,xa.trans (ba.mono xa.size)⟩
   rw [x7] at xc;exact xc
  have yl:=Hh x7;have HA:=Hh hA;have HP:=Hh hP;have cz:=aA hz;have fz:=aE hz;clear yh C f s1 s2 s3 yo yi hz hA ba xc yn yr x7 hP zj;simp only [dJ] at yj yl;refine bQ _ rfl trivial ?_
  go_upto_region 3 with fail
  rw [←yj];clear yj cz fz U yl;generalize I.heap.size=gm at HP ⊢;have ck:=aA HP.o.nod
  go_upto_region 4 with fail
  clear ck
  go_loopw [26] (fun i wr=>∃j:Nat,i=Iz j∧j≤x.names.length∧TxS prog 28 9 3 d G.heap.size S G wr X gm (.slice a5 x.names.length c5) (.slice Y A.length Z) x.names A (x.names.take j)) (fun i _=>x.names.length - (intOf i).toNat)
  case atStart=>exact ⟨0,rfl,Av _,HP.o⟩
  case round=>
   clear HP;obtain ⟨j,rfl,hj,E⟩:=hrel
   by_cases xw:j<x.names.length
   ·have xu:(j:Int)<(x.names.length:Int):=by omega
    have uo:(0:Int)≤(j:Int):=by omega
    have xq:=Hh xw;obtain ⟨s,yg⟩:∃s,x.names[j]?=some s:=⟨_,Ac xw⟩;obtain ⟨bq,oq,rfl,x6,rq⟩:=E.names.strs.get yg;have ye:=E.names.2 s (Ao yg);have xb:=Ck (P:=prog) (k:=9) underlying9 (s:=s) (by omega)
    have M:=E.map;have yv:(x.names.take j).length=j:=by rw [Bc];omega
    rw [yv] at M;have xz:=Hh yg;have xo:=Hh E;have zz:=Hh yv;have va:j<300:=by have:=HX.o.most;have:=x9.o;omega
    clear yg E x6 yv ye
    go_wp2_with (at_mapUpdate;refine Dq _ rfl _ _ _ 77 rfl 9 3 nO underlying77 _ gm j _ rfl M (by unfold maxLen;omega) _ _ _ rfl rfl xb _ [] (plainElem_int underlying3 (WalkArith.wf_i64 (by omega))) ?_;intro w8 V L)
    have yd:=Hh (xo.o.putm (s:=s) (Lr _) (by rw [zz.o];exact V) L)
    clear V L M
    go_roundw
    case rel=>exact ⟨j+1,by go_num,by have:=xq.o;omega,by rw [Bf,xz.o];exact yd.o⟩
    case measure=>have:=xq.o;simp [intOf];omega
   ·have xu:¬ (j:Int)<(x.names.length:Int):=by omega
    rw [Ak (by omega)] at E
    have xo:=Hh E;clear E
    go_upto_region 9 with fail
    clear xw xu hj
    go_loopw [37] (fun i wr=>∃ (j:Nat) (vn vi:Value) (ns:List Bt) (A:List NC),i=Iz j∧j≤ls.length∧TxS prog 28 9 3 d G.heap.size S G wr X gm vn vi ns A ns∧A.length=ns.length∧ns.length≤256+j∧ns.Nodup∧.mk 5 false 0 ⟨#[]⟩ ns (aG A)=bL x (ls.take j) t) (fun i _=>ls.length - (intOf i).toNat)
    case atStart=>exact ⟨0,_,_,_,_,rfl,Av _,xo.o,by have:=zt.o;have:=x9.o;omega,by have:=HX.o.most;have:=x9.o;omega,HX.o.nodup,by rw [HA.o];have:=HX.o;obtain ⟨k,b,z,t',u8,uw⟩:=x;have h1:=this.kind;have h2:=this.bool;have h3:=this.num;have h4:=this.text;simp only [ND.kind,ND.bool,ND.num,ND.text] at h1 h2 h3 h4;subst h1 h2 h3 h4;rfl⟩
    case round=>
     clear xo;obtain ⟨j,vn,vi,ns,R,rfl,hj,E,xd,yw,yu,xh⟩:=hrel;obtain ⟨⟨an,cn,rfl⟩,ai,ci,rfl⟩:=E.forms
     by_cases xw:j<ls.length
     ·have xu:(j:Int)<(ls.length:Int):=by omega
      have uo:(0:Int)≤(j:Int):=by omega
      have xq:=Hh xw;obtain ⟨l,yc⟩:∃l,ls[j]?=some l:=⟨_,Ac xw⟩;obtain ⟨bq,oq,rfl,x6,y6⟩:=y5.o.get yc;have ye:=y5.o.sizes l (Ao yc);have rq:=(E.bel.cell (p:=⟨bq,oq+j,none⟩) (by have:=HS.o _ x6;have:=Z3.o;show bq<_;omega)).trans ((B1.o.cell (p:=⟨bq,oq+j,none⟩) (HS.o _ x6)).trans y6)
      have xb:=Ck (P:=prog) (k:=9) underlying9 (s:=l) (by omega)
      have M:=E.map;have Q:=WU (n:=x) (t:=t) yc;rw [←xh] at Q;have ck:=aA E.nod;have xo:=Hh E;have vc:=Hh yc;have yf:=Hh xd;have zu:=Hh ye;have y1:=Hh yu;have zl:=Hh yw;have uz:R.length≤2000000:=by omega
      have vb:ns.length≤2000000:=by omega
      clear yc x6 y6 E xh ye xd yu yw;rcases aLe l ns with ⟨h1,h2,i,h3,h4⟩ | ⟨h1,h2,h4⟩
      ·have xz:=Hh (Q.trans (XG y1.o h3))
       have xf:Hid (i<R.length):=Hh (by have:=dT h3;have:=yf.o;omega)
       have h4:=h4 (.lit (.int .i64 0));have u7:(0:Int)≤(i:Int):=by omega
       clear Q h3 h1
       go_upto_region 17 with (at_lookup;refine wpList_lookup_own_ok_int _ rfl _ _ 77 rfl 9 3 .i64 nO underlying77 underlying3 (KF _) gm ns.length _ rfl M _ _ rfl xb (fun c' T _=>?_);rw [h4] at T;cases T;rw [h2])
       have HP:=xo;clear M h4 h2 ck rq;generalize wr=wq at HP ⊢;obtain ⟨g,rfl⟩:∃g,ai=some ⟨g,0,none⟩:=by
        rcases HP.o.items.2 with ⟨e,h0⟩ | ⟨g,z4,uf,e,_⟩
        ·have:=xf.o;omega
        ·cases e;exact ⟨g,rfl⟩
       have bd:Below wq.heap.size wq wq.drew:=(Br _ _).drew;have CK:=Hh (fun (I:World) (O:Below wq.heap.size wq I)=>(aA ((O.block _ (Aa HP.o.nod)).trans HP.o.nod)).2.2.2.2.2)
       refine aI (fun w'=>w'.cell? ⟨X,5,none⟩=some (.slice (some ⟨g,0,none⟩) (R).length ci)) [1] (.take 0 (.take 1 (.take 2 (.take 3 (.ask 4 true (.ask 5 false (.ask 6 false .stop .stop) .stop) .stop))))) (by kernel_rfl) (by kernel_rfl) (fun _ d _ _ _ h=>by cases d <;> exact h) (CK.o _ bd) ?_
       have xn:=Hh (HP.o.below bd);generalize wq.drew=wd at bd xn ⊢;refine aF _ ?_ rfl rfl ?_ (fun K F=>?_);rotate_left;(intro w0;go_simp;(try rfl));(go_simp;refine F _ ?_;clear F K)
       refine aM _ ?_ rfl rfl (by decide) ?_ (fun K F=>?_);rotate_left;(intro w0 yt;go_simp;(try rfl));(go_simp;refine F _ ?_;clear F K)
       iterate 2 (refine aF _ ?_ rfl rfl ?_ (fun K F=>?_);rotate_left;(intro w0;go_simp;(try rfl));(go_simp;refine F _ ?_;clear F K))
       refine aH _ rfl trivial ?_
       go_wp2_with (go_at_call 50;(with_reducible refine (NT.o _).mono ?_);rintro e w7 ⟨rfl,xl⟩)
       have r:=Hh (xn.o.below xl);refine Seg.mk ⟨CK.o _ (bd.trans (xl.mono bd.size)),?_⟩;clear xl bd xn;have zx:(i:Int)<((R).length:Int):=by have:=xf.o;omega
       refine aB _ rfl trivial ?_
       go_wp2
       refine Seg.mk ?_;have hq:∀q,q<6→∃u,w7.cell? ⟨g,i * 6+q,none⟩=some u:=fun q hq=>by
        have:=xf.o;rw [r.o.items.cellAt (i * 6+q) (by omega),Ac (by rw [iL _ fun y hy=>(r.o.old y hy).len];omega)]
        exact ⟨_,rfl⟩
       obtain ⟨u0,q0⟩:=hq 0 (by decide)
       obtain ⟨u1,q1⟩:=hq 1 (by decide)
       obtain ⟨u2,q2⟩:=hq 2 (by decide)
       obtain ⟨u3,q3⟩:=hq 3 (by decide)
       obtain ⟨u4,q4⟩:=hq 4 (by decide)
       obtain ⟨u5,q5⟩:=hq 5 (by decide)
       rw [Nat.add_zero] at q0;have ub:=r.o.items.frozenAt (i * 6);have z2:=r.o.items.frozenAt (i * 6+1);have zw:=r.o.items.frozenAt (i * 6+2);have z9:=r.o.items.frozenAt (i * 6+3);have ua:=r.o.items.frozenAt (i * 6+4);have uq:=r.o.items.frozenAt (i * 6+5);have yd:=Hh (r.o.set (Lr _) xf.o xv.o);clear hq r;refine bQ _ rfl trivial ?_
       go_wp2
       go_roundw
       case rel=>exact ⟨j+1,_,_,ns,_,by go_num,by have:=xq.o;omega,yd.o,by rw [List.length_set];exact yf.o,by have:=zl.o;omega,y1.o,by rw [wW];exact xz.o.symm⟩
       case measure=>have:=xq.o;simp [intOf];omega
      ·have xz:=Hh (Q.trans (XH h1))
       have uc:=Hh h1;have h4:=h4 (.lit (.int .i64 0));clear Q h1
       go_upto_region 13 with (at_lookup;refine wpList_lookup_own_ok_int _ rfl _ _ 77 rfl 9 3 .i64 nO underlying77 underlying3 (KF _) gm ns.length _ rfl M _ _ rfl xb (fun c' T _=>?_);rw [h4] at T;cases T;rw [h2])
       clear h4 h2 rq;have zy:Hid ((R.length:Int)=(ns.length:Int)):=Hh (by have:=yf.o;omega)
       go_upto_region 15 with (at_mapUpdate;refine Dq _ rfl _ _ _ 77 rfl 9 3 nO underlying77 _ gm ns.length _ rfl M (by unfold maxLen;omega) _ _ _ rfl rfl xb _ [] (plainElem_int underlying3 (WalkArith.wf_i64 (by omega))) ?_;intro w8 V L)
       have yx:=xo.o.putm (s:=l) (Lr _) (by rw [←zy.o];exact V) L
       clear V L M ck xb;have b7:=(Br w8.heap.size w8).alloc (o:=.cells #[.string l] 9) (Lr _);have ud:=aA yx.nod;have r:=Hh (yx.below b7);have y9:=Hh (cX w8 #[.string l] 9 [.string l] rfl);have zg:=Hh r.o.names.1;have yq:Hid (G.heap.size≤(w8.alloc (.cells #[.string l] 9)).heap.size):=Hh r.o.bel.size;obtain ⟨iq,y4,z0,un,z5⟩:=rD;obtain ⟨ip,y8,up,ul,xr⟩:=rE;have uj:=Hh y4;have um:=Hh y8;have z8:=underlying25;have uk:=underlying26;clear b7 y4 y8 yx
       go_upto_region 16 with ((refine Ay _ rfl (.tmp 56) (.tmp 58) 25 rfl G.heap.size 9 iq (.string ⟨#[]⟩) 1 16 z8 uj.o z0 un z5 rfl (by decide) (.slice an ns.length cn) ns.length _ rfl zg.o ⟨w8.heap.size,0,none⟩ 1 1 [.string l] rfl rfl y9.o (by intro u hu;simp at hu;subst hu;rfl) (by decide) (by unfold maxLen;omega) (by omega) yq.o _ rfl ?_);intro gg cc W8 f J T ut;(have xp:=(J.block X (Aa r.o.nod) (fun e=>r.o.s1 e.symm)).trans r.o.nod);(have yz:=aE xp);(have ys:=aA xp);(have xs:=r.o.name (Lr _) f J (fV T) zu.o);clear f J T xp)
       clear yz ys zg y9 yq r ud;generalize W8.setCell ⟨X,4,none⟩ (.slice (some ⟨gg,0,none⟩) (ns.length+1) cc)=w9 at xs ⊢;have b9:=(Br w9.heap.size w9).alloc (o:=.cells Z6 28) (Lr _);have z6:=aA xs.nod;have xm:=Hh (xs.below b9);have zr:=Hh (cX w9 Z6 28 Y6 rfl);have zn:=Hh xm.o.items;have yp:Hid (G.heap.size≤(w9.alloc (.cells Z6 28)).heap.size):=Hh xm.o.bel.size;have zc:Hid (aD d S G Y6 nd0):=Hh ((cJ S G 0 false 0 ⟨#[]⟩ (by decide)).deeper hd)
       have ym:=Hh zc.o.one;clear b9 xs
       go_upto_region 17 with ((refine Ay _ rfl (.tmp 62) (.tmp 64) 26 rfl G.heap.size 28 ip (.agg Z6) 6 88 uk um.o up ul xr rfl (by decide) (.slice ai R.length ci) R.length _ rfl zn.o ⟨w9.heap.size,0,none⟩ 1 1 Y6 rfl rfl zr.o ym.o (by decide) (by unfold maxLen;omega) (by omega) yp.o _ rfl ?_);intro g2 zq W9 f J T ux;(have xp:=(J.block X (Aa xm.o.nod) (fun e=>xm.o.s2 e.symm)).trans xm.o.nod);(have yz:=aE xp);(have ys:=aA xp);(have xx:=xm.o.item (Lr _) f J (fV T) zc.o);clear f J T xp)
       clear yz ys zn zr yp xm ym z6;generalize W9.setCell ⟨X,5,none⟩ (.slice (some ⟨g2,0,none⟩) (R.length+1) zq)=wq at xx ⊢;obtain ⟨A3,yk⟩:∃B,B=R++[(Y6,nd0)]:=⟨_,rfl⟩;have yy:A3.length=R.length+1:=by rw [yk,Lg];rfl
       have zf:aG (A3.set R.length ([Iz 3,.bool false,Iz 0,.string t,Sn,Sn],tN t))=aG R++[tN t]:=by
        rw [yk,Df _ _ (Lr _),Nat.sub_self];simp [aG]
       rw [←yk] at xx;rw [←yy] at xx;have xf:Hid (R.length<A3.length):=Hh (by omega)
       have zv:=Hh yy;have z7:=Hh zf;obtain ⟨n3,yb⟩:∃m,m=ns++[l]:=⟨_,rfl⟩;have y0:n3.length=ns.length+1:=by rw [yb,Lg];rfl
       rw [←yb,←y0] at xx;rw [←yb] at xz;have za:=Hh y0;have ur:=Hh yb;have HP:=Hh xx;clear xx yk yy zf yb y0;obtain ⟨ai,zb⟩:∃a:Option Addr,a=some ⟨g2,0,none⟩:=⟨_,rfl⟩;rw [←zb] at HP ⊢;obtain ⟨ci,y3⟩:∃a:Nat,a=zq:=⟨_,rfl⟩;rw [←y3] at HP ⊢;clear zb y3;obtain ⟨g,rfl⟩:∃g,ai=some ⟨g,0,none⟩:=by
        rcases HP.o.items.2 with ⟨e,h0⟩ | ⟨g,z4,uf,e,_⟩
        ·have:=xf.o;omega
        ·cases e;exact ⟨g,rfl⟩
       have bd:Below wq.heap.size wq wq.drew:=(Br _ _).drew;have CK:=Hh (fun (I:World) (O:Below wq.heap.size wq I)=>(aA ((O.block _ (Aa HP.o.nod)).trans HP.o.nod)).2.2.2.2.2)
       refine aI (fun w'=>w'.cell? ⟨X,5,none⟩=some (.slice (some ⟨g,0,none⟩) (A3).length ci)) [1] (.take 0 (.take 1 (.take 2 (.take 3 (.ask 4 true (.ask 5 false (.ask 6 false .stop .stop) .stop) .stop))))) (by kernel_rfl) (by kernel_rfl) (fun _ d _ _ _ h=>by cases d <;> exact h) (CK.o _ bd) ?_
       have xn:=Hh (HP.o.below bd);generalize wq.drew=wd at bd xn ⊢;refine aF _ ?_ rfl rfl ?_ (fun K F=>?_);rotate_left;(intro w0;go_simp;(try rfl));(go_simp;refine F _ ?_;clear F K)
       refine aM _ ?_ rfl rfl (by decide) ?_ (fun K F=>?_);rotate_left;(intro w0 yt;go_simp;(try rfl));(go_simp;refine F _ ?_;clear F K)
       iterate 2 (refine aF _ ?_ rfl rfl ?_ (fun K F=>?_);rotate_left;(intro w0;go_simp;(try rfl));(go_simp;refine F _ ?_;clear F K))
       refine aH _ rfl trivial ?_
       go_wp2_with (go_at_call 50;(with_reducible refine (NT.o _).mono ?_);rintro e w7 ⟨rfl,xl⟩)
       have r:=Hh (xn.o.below xl);refine Seg.mk ⟨CK.o _ (bd.trans (xl.mono bd.size)),?_⟩;clear xl bd xn;have zx:(R.length:Int)<((A3).length:Int):=by have:=xf.o;omega
       refine aB _ rfl trivial ?_
       go_wp2
       refine Seg.mk ?_;have hq:∀q,q<6→∃u,w7.cell? ⟨g,R.length * 6+q,none⟩=some u:=fun q hq=>by
        have:=xf.o;rw [r.o.items.cellAt (R.length * 6+q) (by omega),Ac (by rw [iL _ fun y hy=>(r.o.old y hy).len];omega)]
        exact ⟨_,rfl⟩
       obtain ⟨u0,q0⟩:=hq 0 (by decide)
       obtain ⟨u1,q1⟩:=hq 1 (by decide)
       obtain ⟨u2,q2⟩:=hq 2 (by decide)
       obtain ⟨u3,q3⟩:=hq 3 (by decide)
       obtain ⟨u4,q4⟩:=hq 4 (by decide)
       obtain ⟨u5,q5⟩:=hq 5 (by decide)
       rw [Nat.add_zero] at q0;have ub:=r.o.items.frozenAt (R.length * 6);have z2:=r.o.items.frozenAt (R.length * 6+1);have zw:=r.o.items.frozenAt (R.length * 6+2);have z9:=r.o.items.frozenAt (R.length * 6+3);have ua:=r.o.items.frozenAt (R.length * 6+4);have uq:=r.o.items.frozenAt (R.length * 6+5);have yd:=Hh (r.o.set (Lr _) xf.o xv.o);clear hq r;refine bQ _ rfl trivial ?_
       go_wp2
       go_roundw
       case rel=>exact ⟨j+1,_,_,n3,_,by go_num,by have:=xq.o;omega,yd.o,by rw [List.length_set];have:=zv.o;have:=za.o;have:=yf.o;omega,by have:=zl.o;have:=za.o;omega,by rw [ur.o];exact QW y1.o uc.o,by rw [z7.o];exact xz.o.symm⟩
       case measure=>have:=xq.o;simp [intOf];omega
     ·have xu:¬ (j:Int)<(ls.length:Int):=by omega
      rw [Ak (by omega)] at xh
      obtain ⟨Ln,ze⟩:∃n,n=ns.length:=⟨_,rfl⟩;obtain ⟨Li,zi⟩:∃n,n=R.length:=⟨_,rfl⟩;have HN:=Hh E.node;have q1:=aA E.nod;rw [←ze,←zi] at HN q1;have xa:=E.bel;have xt:wr.heap[w.heap.size+1]?=some (.cells Z6 28 (0,0)):=(xa.block _ (Aa K1.o)).trans K1.o;have q2:=aA xt;have q3:=aE xt;have ue:=Hh xt;have HB:=Hh xa;rw [xh] at HN;clear E xh ze zi xa xt xd yw yu
      go_wp2
      have zh:=dG ue.o (Iz 5) (.bool false) (Iz 0) (.string ⟨#[]⟩) (.slice an Ln cn) (.slice ai Li ci);have y2:=aO wr (w.heap.size+1) (Iz 5) (.bool false) (Iz 0) (.string ⟨#[]⟩) (.slice an Ln cn) (.slice ai Li ci);refine Au (v:=.agg #[Iz 5,.bool false,Iz 0,.string ⟨#[]⟩,.slice an Ln cn,.slice ai Li ci]) ?_ ?_ ?_;rotate_left
      ·rfl
      ·have O:=B1.o.trans (HB.o.mono B1.o.size)
       have hz:=Z3.o;refine ⟨_,_,rfl,?_,O.grown y2 O.size (fun g e=>by have:=Ab (show some (w.heap.size+1)=some g from e);omega)⟩
       exact (HN.o.same fun b q=>y2.block b q.1 (by intro e;have e:=Ab e;exact q.2.elim (fun q=>by omega) (fun q=>by have:=HS.o b q;omega))).mono fun b q=>Ll q.1 y2.size
      ·obtain ⟨q0,q1,q2,q3,q4,q5⟩:=aA zh
       simp only [dJ] at q0 q1 q2 q3 q4 q5 ⊢;simp [results,results26,go_sem,q0,q1,q2,q3,q4,q5]
end Go.Proofs.YtncdpanfefnjlaaGreatDoor