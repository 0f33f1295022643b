import Derived.Test.YtncdpanfefnjlaaGreatDoorMde
set_option linter.unusedVariables false
set_option linter.unusedSimpArgs false
set_option maxHeartbeats 12800000
set_option maxRecDepth 100000
namespace Go.Proofs.YtncdpanfefnjlaaGreatDoor
open Go.Proofs.Tryz
open Go Go.Maps Go.ChangeShapes Go.WideShapes Go.ChangeAt Go.RowKit
theorem EO {d:Nat} {y:ND} (h:aB (d+1) y=true) (h7:fV y=7):nP 7 (gG y)=some y∧oV d y=[]:=by
 have hk:=jA h;obtain ⟨k,b,n,tt,ns,its⟩:=y;unfold nd0 at hk;simp only [ND.mk.injEq,ND.kind,ND.bool,ND.num,ND.text,ND.names,ND.items] at *;rcases hk with ⟨rfl,rfl,rfl,rfl,rfl,rfl⟩ | ⟨rfl,-,rfl,rfl,rfl,rfl⟩ | ⟨rfl,rfl,-,rfl,rfl,rfl⟩ | ⟨rfl,rfl,rfl,-,rfl,rfl⟩ | ⟨rfl,rfl,rfl,rfl,rfl,-⟩ | ⟨⟨rfl,rfl,rfl,rfl,-,-⟩,hlx⟩
 ·exact ⟨rfl,rfl⟩
 ·cases b <;> exact ⟨rfl,rfl⟩
 ·exfalso
  unfold fV at h7;simp [ND.kind,ND.num] at h7
  by_cases hq:n<0
  ·simp [hq] at h7
  ·simp [hq] at h7
 ·exfalso;revert h7;simp [fV,ND.kind]
 ·exfalso;revert h7;simp [fV,ND.kind]
 ·exfalso;revert h7;simp [fV,ND.kind]
theorem aIg {d:Nat} {y:ND} (h:aB (d+1) y=true) (hn:aO (d+1) y=true):fV y=7∨fV y=0∨fV y=1∨fV y=3∨fV y=4∨fV y=5:=by
 rcases jS h hn with ⟨c1,-⟩ | ⟨c1,-⟩ | ⟨c1,-⟩ | ⟨c1,-⟩ | ⟨c1,-⟩ | ⟨c1,-⟩ <;> omega
theorem BT (z:Int):dD (IntKind.i64.wrap z)=true:=by
 unfold dD;rw [Ak,Av,Av,IntKind.wrap_i64];omega
theorem iL {V:ND→Ub→Prop} {d g mb:Nat} {r r':Ub} {w wx:World} (k:Int) (b:Bool) (z:Int) (t:Bt) (ok:Bool) (hp:PrC wx g mb r') (hg:w.grownBy wx (some g)) (hgw:g<w.heap.size) (hl:r'.length≤r.length) (hl2:ok=true→r'.length<r.length) (ht:t.size≤maxLen - 2) (hz:dD z=true)
 (hV:∀y t',V y t'→ok=true∧(.mk k b z t [] [])=y∧r'=t') :
 IC V d g mb r w (.returned (.tuple #[.agg #[Iz k,.bool b,Iz z,.string t,Sn,Sn],.bool ok])) (dE wx w.heap.size (Iz k) (.bool b) (Iz z) (.string t) (Sn) (Sn)):=by
 have hgs:=aM wx w.heap.size (Iz k) (.bool b) (Iz z) (.string t) (Sn) (Sn);exact ⟨[Iz k,.bool b,Iz z,.string t,Sn,Sn],_,ok,r',rfl,(cC _ _ k b z t ht).deeper (by omega),hp.kept hgs hgw,gB hg hgs (Lr _),hl,hl2,⟨⟨by simp [ND.items],fun y hy=>by simp [ND.items] at hy⟩,by unfold aO;show (dD z && _)=true;rw [hz];rfl⟩,hV⟩
theorem DX {V:ND→Ub→Prop} {d g mb:Nat} {r:Ub} {w wX wY:World} {x:ND} {ok:Bool} {r':Ub} {a1 a2:Option Addr} {l1 c1 l2 c2:Nat}
 (hn:aC (d+1) (fun b=>wX.heap.size≤b∧b<wY.heap.size) wY (Nc x a1 l1 c1 a2 l2 c2) x) (hX:w.heap.size<wX.heap.size) (hp:PrC wY g mb r') (hg:w.grownBy wY (some g)) (hgw:g<w.heap.size) (hl:r'.length≤r.length) (hl2:ok=true→r'.length<r.length) (hf:jN (d+1) x∧aO (d+1) x=true) (hV:∀y t,V y t→ok=true∧x=y∧r'=t) :
 IC V d g mb r w (.returned (.tuple #[.agg (Na x a1 l1 c1 a2 l2 c2),.bool ok])) (dE wY w.heap.size (Iz x.kind) (.bool x.bool) (Iz x.num) (.string x.text) (.slice a1 l1 c1) (.slice a2 l2 c2)):=by
 have hgs:=aM wY w.heap.size (Iz x.kind) (.bool x.bool) (Iz x.num) (.string x.text) (.slice a1 l1 c1) (.slice a2 l2 c2);refine ⟨(Nc x a1 l1 c1 a2 l2 c2),x,ok,r',rfl,?_,hp.kept hgs hgw,gB hg hgs (Lr _),hl,hl2,hf,hV⟩;exact (hn.same fun b hb=>hgs.block b hb.2 (by intro e;have:=Ab e;omega)).mono fun b hb=>⟨by omega,Ll hb.2 hgs.size⟩
theorem MA:pC 0:=by
 intro g mb r w h hr;have hgw:=h.lt;have bA':=(Br w.heap.size w).alloc (o:=.cells Z6 28) (Lr _);have h0:=h.below bA';have hr0:=Hn w (.cells Z6 28);have hg0:=dP w (.cells Z6 28) (some g);have hz0:w.heap.size<(w.alloc (.cells Z6 28)).heap.size:=by simp
 have HD:=Hh (fun (wx:World) (hx:PrC wx g mb r)=>GG wx hx (by omega))
 clear h bA'
 go_enter func148,ntmps148
 go_upto_region 1 with fail
 generalize w.alloc (.cells Z6 28)=w0 at h0 hr0 hg0 hz0 ⊢;have HR:=Hh hr0;have HG:=Hh hg0;clear hr0 hg0
 go_upto_region 2 with ((with_reducible refine (HD.o _ h0).mono ?_);rintro e w1 ⟨m,n,ok,r1,rfl,hp1,hg1,hm,hn,hl1,hlt1,hI⟩)
 have bB:=(Br w1.heap.size w1).alloc (o:=.cells #[Iz (m:Int),.int .u64 (n:Int)] 214) (Lr _);have hp2:=hp1.below bB;have k2:=Hn w1 (.cells #[Iz (m:Int),.int .u64 (n:Int)] 214);have hg2:=aH (aH HG.o hg1) (dP w1 (.cells #[Iz (m:Int),.int .u64 (n:Int)] 214) (some g));have hr1:=cM hg1 (by omega) HR.o
 have hr2:=(bB.block _ (Aa hr1)).trans hr1;have hbw:w.heap.size<w1.heap.size:=Ll hz0 hg1.size;have hbl:w1.heap.size<(w1.alloc (.cells #[Iz (m:Int),.int .u64 (n:Int)] 214)).heap.size:=by simp
 generalize w1.alloc (.cells #[Iz (m:Int),.int .u64 (n:Int)] 214)=w2 at hp2 k2 hg2 hr2 hbl ⊢;obtain ⟨b,hb⟩:∃b,b=w1.heap.size:=⟨_,rfl⟩;rw [←hb] at k2 hbw hbl ⊢;have HP:=Hh (Ai hp2 hg2);have K2:=Hh k2;have HR2:=Hh hr2;have HI:=Hh hI;have HL:=Hh (Ai hl1 hlt1);have hr1l:r1.length≤100000:=by omega
 have c2:=dY k2;clear hb hp2 hg2 k2 hI hl1 hlt1 hr1 hr2 hp1 hg1 bB HD HR HG h0 w1 hz0;have f2:=aD HR2.o;have e2:=aA HR2.o;cases ok
 all_goals
  go_wp2
  refine aP (v:=.bool false) HR2.o results148 rfl rfl rfl ?_;exact iL 0 false 0 ⟨#[]⟩ false HP.o.1 HP.o.2 hgw HL.o.1 (fun h=>by cases h) (by decide) (by decide) (fun y t hV=>by have:=hV.1;cases this)
theorem MB (d:Nat) (hd20:d≤20) (PN:pC d):pC (d+1):=by
 intro g mb r w h hr;rw [show ((d+1:Nat):Int)=(d:Int)+1 by omega]
 have hd0:(0:Int)≤(d:Int):=by omega
 have hdz:(d:Int)≤20:=by omega
 have h1d:¬ (d:Int)+1<1:=by omega
 have IT:=Hh (fun (k:Int) (hk:k=4∨k=5) (n:Nat) (hn:n<18446744073709551616) (r1:Ub) (wx:World) (hx:PrC wx g mb r1) (h1:r1.length≤100000) (hL:LIr d k n r [] [] r1)=>MC d hd20 PN k hk n hn wx hx h1 hL)
 clear PN hd20;have hgw:=h.lt;have bA':=(Br w.heap.size w).alloc (o:=.cells Z6 28) (Lr _);have h0:=h.below bA';have hr0:=Hn w (.cells Z6 28);have hg0:=dP w (.cells Z6 28) (some g);have hz0:w.heap.size<(w.alloc (.cells Z6 28)).heap.size:=by simp
 have HD:=Hh (fun (wx:World) (hx:PrC wx g mb r)=>GG wx hx (by omega))
 clear h bA'
 go_enter func148,ntmps148
 go_upto_region 1 with fail
 generalize w.alloc (.cells Z6 28)=w0 at h0 hr0 hg0 hz0 ⊢;have HR:=Hh hr0;have HG:=Hh hg0;clear hr0 hg0
 go_upto_region 2 with ((with_reducible refine (HD.o _ h0).mono ?_);rintro e w1 ⟨m,n,ok,r1,rfl,hp1,hg1,hm,hn,hl1,hlt1,hI⟩)
 have bB:=(Br w1.heap.size w1).alloc (o:=.cells #[Iz (m:Int),.int .u64 (n:Int)] 214) (Lr _);have hp2:=hp1.below bB;have k2:=Hn w1 (.cells #[Iz (m:Int),.int .u64 (n:Int)] 214);have hg2:=aH (aH HG.o hg1) (dP w1 (.cells #[Iz (m:Int),.int .u64 (n:Int)] 214) (some g));have hr1:=cM hg1 (by omega) HR.o
 have hr2:=(bB.block _ (Aa hr1)).trans hr1;have hbw:w.heap.size<w1.heap.size:=Ll hz0 hg1.size;have hbl:w1.heap.size<(w1.alloc (.cells #[Iz (m:Int),.int .u64 (n:Int)] 214)).heap.size:=by simp
 generalize w1.alloc (.cells #[Iz (m:Int),.int .u64 (n:Int)] 214)=w2 at hp2 k2 hg2 hr2 hbl ⊢;obtain ⟨b,hb⟩:∃b,b=w1.heap.size:=⟨_,rfl⟩;rw [←hb] at k2 hbw hbl ⊢;have HP:=Hh (Ai hp2 hg2);have K2:=Hh k2;have HR2:=Hh hr2;have HI:=Hh hI;have HL:=Hh (Ai hl1 hlt1);have hr1l:r1.length≤100000:=by omega
 have c2:=dY k2;clear hb hp2 hg2 k2 hI hl1 hlt1 hr1 hr2 hp1 hg1 bB HD HR HG h0 w1 hz0;cases ok with
 | false=>
  have f2:=aD HR2.o;have e2:=aA HR2.o
  go_wp2
  refine aP (v:=.bool false) HR2.o results148 rfl rfl rfl ?_;exact iL 0 false 0 ⟨#[]⟩ false HP.o.1 HP.o.2 hgw HL.o.1 (fun h=>by cases h) (by decide) (by decide) (fun y t hV=>by have:=(yL HI.o hV).1;cases this)
 | true=>
  have hl1:=HL.o.1;have hlt1:=HL.o.2 rfl
  by_cases h0m:m=0
  ·have hw3:=BT (n:Int)
   obtain ⟨z,hz⟩:∃z,z=IntKind.i64.wrap (n:Int):=⟨_,rfl⟩;have hzw:IntKind.i64.wrap (n:Int)=z:=hz.symm;rw [←hz] at hw3;have HV:Hid (∀y t,CIr (d+1) r y t→(.mk 2 false z ⟨#[]⟩ [] [])=y∧r1=t):=Hh fun y t hy=>by
    obtain ⟨-,e1,e2,e3⟩:=yL HI.o hy;rcases jS hy.1 hy.2.1 with ⟨c1,-⟩ | ⟨c1,c2,c3⟩ | ⟨c1,-⟩ | ⟨c1,-⟩ | ⟨c1,-⟩ | ⟨c1,-⟩
    ·omega
    ·have hzz:z=(gG y:Int):=by rw [hz,e2];exact Cd _ (by omega)
     refine ⟨by rw [hzz];exact c3.symm,?_⟩
     rw [e3,c3];rfl
    all_goals omega
   have hb0:((m:Int) == 0)=true:=by simp;try omega
   have hb1:((m:Int) == 1)=false:=by simp;try omega
   have hb3:((m:Int) == 3)=false:=by simp;try omega
   have hb4:((m:Int) == 4)=false:=by simp;try omega
   have hb5:((m:Int) == 5)=false:=by simp;try omega
   have NN:=Hh (fun wx=>sL z wx)
   have HW3:=Hh hw3;clear h0m hz hw3
   go_wp2_with (go_at_call 171;(with_reducible refine (NN.o _).mono ?_);rintro e w3 ⟨rfl,hb3⟩;(have hr3:=(hb3.block _ (Aa HR2.o)).trans HR2.o);(have f3:=aD hr3);(have e3:=aA hr3);(have HR3:=Hh hr3);(have HP3:=Hh (Ai (HP.o.1.below hb3) (aH HP.o.2 (aK hb3 (Lr _) _))));clear hr3)
   refine aP (v:=.bool true) HR3.o results148 rfl rfl rfl ?_;exact iL 2 false z ⟨#[]⟩ true HP3.o.1 HP3.o.2 hgw hl1 (fun _=>hlt1) (by decide) HW3.o (fun y t hy=>⟨rfl,HV.o y t hy⟩)
  by_cases h1m:m=1
  ·have hw3:=BT (-1 - IntKind.i64.wrap (n:Int))
   obtain ⟨z1,hz1⟩:∃z,z=IntKind.i64.wrap (n:Int):=⟨_,rfl⟩;have hzw1:IntKind.i64.wrap (n:Int)=z1:=hz1.symm;rw [←hz1] at hw3;obtain ⟨z,hz⟩:∃z,z=IntKind.i64.wrap (-1 - z1):=⟨_,rfl⟩;have hzw:IntKind.i64.wrap (-1 - z1)=z:=hz.symm;rw [←hz] at hw3;have HV:Hid (∀y t,CIr (d+1) r y t→(.mk 2 false z ⟨#[]⟩ [] [])=y∧r1=t):=Hh fun y t hy=>by
    obtain ⟨-,e1,e2,e3⟩:=yL HI.o hy;rcases jS hy.1 hy.2.1 with ⟨c1,-⟩ | ⟨c1,-⟩ | ⟨c1,c2,c3⟩ | ⟨c1,-⟩ | ⟨c1,-⟩ | ⟨c1,-⟩
    ·omega
    ·omega
    ·have hzz1:z1=(gG y:Int):=by rw [hz1,e2];exact Cd _ (by omega)
     have hzz:z=-1 - (gG y:Int):=by rw [hz,hzz1];exact Cd _ (by omega)
     refine ⟨by rw [hzz];exact c3.symm,?_⟩
     rw [e3,c3];rfl
    all_goals omega
   have hb0:((m:Int) == 0)=false:=by simp;try omega
   have hb1:((m:Int) == 1)=true:=by simp;try omega
   have hb3:((m:Int) == 3)=false:=by simp;try omega
   have hb4:((m:Int) == 4)=false:=by simp;try omega
   have hb5:((m:Int) == 5)=false:=by simp;try omega
   have NN:=Hh (fun wx=>sL z wx)
   have HW3:=Hh hw3;clear h0m h1m hz hz1 hw3
   go_wp2_with (go_at_call 171;(with_reducible refine (NN.o _).mono ?_);rintro e w3 ⟨rfl,hb3⟩;(have hr3:=(hb3.block _ (Aa HR2.o)).trans HR2.o);(have f3:=aD hr3);(have e3:=aA hr3);(have HR3:=Hh hr3);(have HP3:=Hh (Ai (HP.o.1.below hb3) (aH HP.o.2 (aK hb3 (Lr _) _))));clear hr3)
   refine aP (v:=.bool true) HR3.o results148 rfl rfl rfl ?_;exact iL 2 false z ⟨#[]⟩ true HP3.o.1 HP3.o.2 hgw hl1 (fun _=>hlt1) (by decide) HW3.o (fun y t hy=>⟨rfl,HV.o y t hy⟩)
  by_cases h3m:m=3
  ·skip
   have hb0:((m:Int) == 0)=false:=by simp;try omega
   have hb1:((m:Int) == 1)=false:=by simp;try omega
   have hb3:((m:Int) == 3)=true:=by simp;try omega
   have hb4:((m:Int) == 4)=false:=by simp;try omega
   have hb5:((m:Int) == 5)=false:=by simp;try omega
   by_cases hq:n≤r1.length
   ·clear h0m h1m
    have TK:=Hh (fun (wx:World) (hx:PrC wx g mb r1)=>uP n wx hx (by omega) hq)
    have hsz:(bC (r1.take n)).size≤100000:=by rw [eH,Ba];omega
    have HV:Hid (∀y t,CIr (d+1) r y t→(.mk 3 false 0 (bC (r1.take n)) [] [])=y∧r1.drop n=t):=Hh fun y t hy=>by
     obtain ⟨-,e1,e2,e3⟩:=yL HI.o hy;rcases jS hy.1 hy.2.1 with ⟨c1,-⟩ | ⟨c1,-⟩ | ⟨c1,-⟩ | ⟨c1,c2,c3,c4⟩ | ⟨c1,-⟩ | ⟨c1,-⟩
     ·omega
     ·omega
     ·omega
     ·have hcc:gG y=y.text.size:=by rw [c3];rfl
      have hbb:oV d y=y.text.data.toList:=by rw [c3];rfl
      rw [hbb] at e3;obtain ⟨-,f2,f3⟩:=mR e3;rw [e2,hcc];exact ⟨by rw [f2];exact c3.symm,f3⟩
     all_goals omega
    have hl2:(r1.drop n).length≤r1.length:=by rw [Cb];omega
    obtain ⟨sx,hsx⟩:∃sx,sx=bC (r1.take n):=⟨_,rfl⟩;obtain ⟨rx,hrx⟩:∃rx,rx=r1.drop n:=⟨_,rfl⟩;rw [←hsx,←hrx] at TK HV;rw [←hsx] at hsz;rw [←hrx] at hl2;clear hsx hrx hq;have NT:=Hh (fun wx=>gA sx wx)
    go_upto_region 10 with fail
    refine aJ (fun w'=>w'.cell? ⟨b,1,none⟩=some (.int .u64 (n:Int))) [4] (.take 0 (.take 1 (.take 2 (.take 3 (.take 4 (.ask 5 false (.take 6 (.take 7 (.take 8 (.take 9 (.ask 10 false .stop .stop))))) .stop)))))) (by kernel_rfl) (by kernel_rfl) (fun _ d _ _ _ h=>by cases d <;> exact h) c2.2 ?_
    have hpd:PrC w2.drew g mb r1:=HP.o.1.below (Br _ _).drew;have HPD:=Hh hpd;have HGD:Hid (w.grownBy w2.drew (some g)):=Hh (aH HP.o.2 (aK ((Br w2.heap.size w2).drew) (Lr _) _));have HRD:Hid (w2.drew.heap[w.heap.size]?=some (.cells Z6 28 (0,0))):=Hh HR2.o;clear hpd c2;generalize w2.drew=wd at HPD HGD HRD ⊢
    iterate 4 (refine aG _ ?_ rfl rfl ?_ (fun K hK=>?_);rotate_left;(intro w0;go_simp;(try rfl));(go_simp;refine hK _ ?_;clear hK K))
    refine aN _ ?_ rfl rfl (by decide) ?_ (fun K hK=>?_);rotate_left;(intro w0 hw0;go_simp;(try rfl));(go_simp;refine hK _ ?_;clear hK K)
    refine aF _ rfl trivial ?_;go_wp2_with (go_at_call 172;(with_reducible refine (TK.o _ HPD.o).mono ?_);rintro e w3 ⟨rfl,hp3,hg3⟩);refine Seg.mk ?_
    iterate 4 (refine aG _ ?_ rfl rfl ?_ (fun K hK=>?_);rotate_left;(intro w0;go_simp;(try rfl));(go_simp;refine hK _ ?_;clear hK K))
    refine cG _ rfl trivial ?_;have hr3:=cM hg3 (by omega) HRD.o
    have HR3:=Hh hr3;have HP3:=Hh (Ai hp3 (aH HGD.o hg3));clear hr3 hp3 hg3
    go_wp2_with (go_at_call 50;(with_reducible refine (NT.o _).mono ?_);rintro e w4 ⟨rfl,hb4⟩;(have hr4:=(hb4.block _ (Aa HR3.o)).trans HR3.o);(have f4:=aD hr4);(have e4:=aA hr4);(have HR4:=Hh hr4);(have HP4:=Hh (Ai (HP3.o.1.below hb4) (aH HP3.o.2 (aK hb4 (Lr _) _))));clear hr4)
    refine aP (v:=.bool true) HR4.o results148 rfl rfl rfl ?_;exact iL 3 false 0 sx true HP4.o.1 HP4.o.2 hgw (by omega) (fun _=>by omega) (by unfold maxLen;omega) (by decide) (fun y t hy=>⟨rfl,HV.o y t hy⟩)
   ·clear h0m h1m
    have TK:=Hh (fun (wx:World) (hx:PrC wx g mb r1)=>AC n wx hx (by omega) hq)
    have HV:Hid (∀y t,¬CIr (d+1) r y t):=Hh fun y t hy=>by
     obtain ⟨-,e1,e2,e3⟩:=yL HI.o hy;rcases jS hy.1 hy.2.1 with ⟨c1,-⟩ | ⟨c1,-⟩ | ⟨c1,-⟩ | ⟨c1,c2,c3,c4⟩ | ⟨c1,-⟩ | ⟨c1,-⟩
     ·omega
     ·omega
     ·omega
     ·have hcc:gG y=y.text.size:=by rw [c3];rfl
      have hbb:oV d y=y.text.data.toList:=by rw [c3];rfl
      rw [hbb] at e3;obtain ⟨f1,-,-⟩:=mR e3;omega
     all_goals omega
    clear hq;have NT:=Hh (fun wx=>gA ⟨#[]⟩ wx)
    go_upto_region 10 with fail
    refine aJ (fun w'=>w'.cell? ⟨b,1,none⟩=some (.int .u64 (n:Int))) [4] (.take 0 (.take 1 (.take 2 (.take 3 (.take 4 (.ask 5 false (.take 6 (.take 7 (.take 8 (.take 9 (.ask 10 false .stop .stop))))) .stop)))))) (by kernel_rfl) (by kernel_rfl) (fun _ d _ _ _ h=>by cases d <;> exact h) c2.2 ?_
    have hpd:PrC w2.drew g mb r1:=HP.o.1.below (Br _ _).drew;have HPD:=Hh hpd;have HGD:Hid (w.grownBy w2.drew (some g)):=Hh (aH HP.o.2 (aK ((Br w2.heap.size w2).drew) (Lr _) _));have HRD:Hid (w2.drew.heap[w.heap.size]?=some (.cells Z6 28 (0,0))):=Hh HR2.o;clear hpd c2;generalize w2.drew=wd at HPD HGD HRD ⊢
    iterate 4 (refine aG _ ?_ rfl rfl ?_ (fun K hK=>?_);rotate_left;(intro w0;go_simp;(try rfl));(go_simp;refine hK _ ?_;clear hK K))
    refine aN _ ?_ rfl rfl (by decide) ?_ (fun K hK=>?_);rotate_left;(intro w0 hw0;go_simp;(try rfl));(go_simp;refine hK _ ?_;clear hK K)
    refine aF _ rfl trivial ?_;go_wp2_with (go_at_call 172;(with_reducible refine (TK.o _ HPD.o).mono ?_);rintro e w3 ⟨rfl,hp3,hg3⟩);refine Seg.mk ?_
    iterate 4 (refine aG _ ?_ rfl rfl ?_ (fun K hK=>?_);rotate_left;(intro w0;go_simp;(try rfl));(go_simp;refine hK _ ?_;clear hK K))
    refine cG _ rfl trivial ?_;have hr3:=cM hg3 (by omega) HRD.o
    have HR3:=Hh hr3;have HP3:=Hh (Ai hp3 (aH HGD.o hg3));clear hr3 hp3 hg3
    go_wp2_with (go_at_call 50;(with_reducible refine (NT.o _).mono ?_);rintro e w4 ⟨rfl,hb4⟩;(have hr4:=(hb4.block _ (Aa HR3.o)).trans HR3.o);(have f4:=aD hr4);(have e4:=aA hr4);(have HR4:=Hh hr4);(have HP4:=Hh (Ai (HP3.o.1.below hb4) (aH HP3.o.2 (aK hb4 (Lr _) _))));clear hr4)
    refine aP (v:=.bool false) HR4.o results148 rfl rfl rfl ?_;exact iL 3 false 0 ⟨#[]⟩ false HP4.o.1 HP4.o.2 hgw (by omega) (fun h=>by cases h) (by decide) (by decide) (fun y t hy=>absurd hy (HV.o y t))
  by_cases h4m:m=4
  ·have hL0:LIr d 4 n r [] [] r1:=by
    have:=LIr.start (d:=d) HI.o (by omega)
    rw [show (m:Int)=4 by omega] at this
    exact this
   have ITk:=Hh (fun (wx:World) (hx:PrC wx g mb r1)=>IT.o 4 (by decide) n hn r1 wx hx hr1l hL0)
   have hz2:w.heap.size<w2.heap.size:=by omega
   have hb0:((m:Int) == 0)=false:=by simp;try omega
   have hb1:((m:Int) == 1)=false:=by simp;try omega
   have hb3:((m:Int) == 3)=false:=by simp;try omega
   have hb4:((m:Int) == 4)=true:=by simp;try omega
   have hb5:((m:Int) == 5)=false:=by simp;try omega
   clear h0m h1m h3m hL0
   go_wp2_with (go_at_call 173;(with_reducible refine (ITk.o _ HP.o.1).mono ?_);rintro e5 w5 ⟨cs,x,ok,r',rfl,hnode,hp5,hg5,hl5,hlt5,hf5,hv5⟩;go_loud ((obtain ⟨a1,l1,d1,a2,l2,d2,hcs⟩:=hnode.slices);subst hcs;(have hr9:=cM hg5 (by omega) HR2.o);(have f9:=aD hr9);(have c9:=aA hr9);(have HR9:=Hh hr9);(have HN:=Hh (Ai hnode (Ai hp5 hf5)));(have HG5:=Hh (aH HP.o.2 hg5));(have HL5:Hid (r'.length≤r.length∧(ok=true→r'.length<r.length)):=Hh ⟨by omega,fun h=>by have:=hlt5 h;omega⟩);(have HVV:=Hh hv5);clear hr9 hnode hp5 hf5 hg5 hv5 hlt5))
   refine aP (v:=.bool ok) HR9.o results148 rfl rfl rfl ?_;exact DX HN.o.1 hz2 HN.o.2.1 HG5.o hgw HL5.o.1 HL5.o.2 HN.o.2.2 HVV.o
  by_cases h5m:m=5
  ·have hL0:LIr d 5 n r [] [] r1:=by
    have:=LIr.start (d:=d) HI.o (by omega)
    rw [show (m:Int)=5 by omega] at this
    exact this
   have ITk:=Hh (fun (wx:World) (hx:PrC wx g mb r1)=>IT.o 5 (by decide) n hn r1 wx hx hr1l hL0)
   have hz2:w.heap.size<w2.heap.size:=by omega
   have hb0:((m:Int) == 0)=false:=by simp;try omega
   have hb1:((m:Int) == 1)=false:=by simp;try omega
   have hb3:((m:Int) == 3)=false:=by simp;try omega
   have hb4:((m:Int) == 4)=false:=by simp;try omega
   have hb5:((m:Int) == 5)=true:=by simp;try omega
   clear h0m h1m h3m hL0
   go_wp2_with (go_at_call 173;(with_reducible refine (ITk.o _ HP.o.1).mono ?_);rintro e5 w5 ⟨cs,x,ok,r',rfl,hnode,hp5,hg5,hl5,hlt5,hf5,hv5⟩;go_loud ((obtain ⟨a1,l1,d1,a2,l2,d2,hcs⟩:=hnode.slices);subst hcs;(have hr9:=cM hg5 (by omega) HR2.o);(have f9:=aD hr9);(have c9:=aA hr9);(have HR9:=Hh hr9);(have HN:=Hh (Ai hnode (Ai hp5 hf5)));(have HG5:=Hh (aH HP.o.2 hg5));(have HL5:Hid (r'.length≤r.length∧(ok=true→r'.length<r.length)):=Hh ⟨by omega,fun h=>by have:=hlt5 h;omega⟩);(have HVV:=Hh hv5);clear hr9 hnode hp5 hf5 hg5 hv5 hlt5))
   refine aP (v:=.bool ok) HR9.o results148 rfl rfl rfl ?_;exact DX HN.o.1 hz2 HN.o.2.1 HG5.o hgw HL5.o.1 HL5.o.2 HN.o.2.2 HVV.o
  have HV:Hid (∀y t,CIr (d+1) r y t→(nP m n).isSome=true∧(.mk (((nP m n).getD nd0).kind) (((nP m n).getD nd0).bool) 0 ⟨#[]⟩ [] [])=y∧r1=t):=Hh fun y t hy=>by
   obtain ⟨-,e1,e2,e3⟩:=yL HI.o hy;have h7:fV y=7:=by rcases aIg hy.1 hy.2.1 with c | c | c | c | c | c <;> omega
   obtain ⟨f1,f2⟩:=EO hy.1 h7;rw [f2] at e3;rw [e1,e2,h7,f1];refine ⟨rfl,?_,e3⟩;unfold nP at f1
   split at f1
   ·cases f1;rfl
   ·split at f1
    ·cases f1;rfl
    ·split at f1
     ·cases f1;rfl
     ·cases f1
  have LK:=Hh (fun (wx:World) (hx:pA wx mb)=>hx.look hm hn)
  obtain ⟨zk,hzk⟩:∃k,k=(((nP m n).getD nd0).kind):=⟨_,rfl⟩;obtain ⟨zb,hzb⟩:∃k,k=(((nP m n).getD nd0).bool):=⟨_,rfl⟩;obtain ⟨zo,hzo⟩:∃k,k=(nP m n).isSome:=⟨_,rfl⟩;simp only [fL] at LK;rw [←hzk,←hzb,←hzo] at LK HV;clear hzk hzb hzo;have hb0:((m:Int) == 0)=false:=by simp;try omega
  have hb1:((m:Int) == 1)=false:=by simp;try omega
  have hb3:((m:Int) == 3)=false:=by simp;try omega
  have hb4:((m:Int) == 4)=false:=by simp;try omega
  have hb5:((m:Int) == 5)=false:=by simp;try omega
  clear h0m h1m h3m h4m h5m;have HHD:=HP.o.1.2.1;have cg:=aL HP.o.1.1 (j:=1) rfl
  go_upto_region 16 with fail
  refine aJ (fun w'=>(w'.cell? ⟨g,1,none⟩=some (.map (some mb))∧(w'.cell? ⟨b,0,none⟩=some (Iz (m:Int))∧w'.cell? ⟨b,1,none⟩=some (.int .u64 (n:Int))))∧pA w' mb) [3,4,5] (.take 0 (.take 1 (.take 2 (.take 3 (.take 4 (.take 5 (eN.join true (.ask 6 false (.take 7 (.take 8 (.ask 9 false .stop .stop))) (.ask 9 true (.ask 6 false (.take 7 (.take 8 .stop)) .stop) .stop)) (.ask 10 false (.ask 11 false .stop .stop) .stop)))))))) (by kernel_rfl) (by kernel_rfl) (fun _ d _ _ _ h=>by cases d <;> exact h) ⟨⟨cg,c2⟩,HHD⟩ ?_
  have hpd:PrC w2.drew g mb r1:=HP.o.1.below (Br _ _).drew;have HPD:=Hh (Ai hpd (aH HP.o.2 (aK ((Br w2.heap.size w2).drew) (Lr _) _)));have HRD:Hid (w2.drew.heap[w.heap.size]?=some (.cells Z6 28 (0,0))):=Hh HR2.o;have hcd:(w2.drew.cell? ⟨g,1,none⟩=some (.map (some mb))∧(w2.drew.cell? ⟨b,0,none⟩=some (Iz (m:Int))∧w2.drew.cell? ⟨b,1,none⟩=some (.int .u64 (n:Int)))):=⟨cg,c2⟩;have HCD:=Hh hcd;clear hpd cg c2 HHD hcd;generalize w2.drew=wd at HPD HRD HCD ⊢
  iterate 3 (refine aG _ ?_ rfl rfl ?_ (fun K hK=>?_);rotate_left;(intro w0;go_simp;(try rfl));(go_simp;refine hK _ ?_;clear hK K))
  iterate 2 (refine aN _ ?_ rfl rfl (by decide) ?_ (fun K hK=>?_);rotate_left;(intro w0 hw0;obtain ⟨⟨s0,s1,s2⟩,sh⟩:=hw0;go_simp;(try rfl));(go_simp;refine hK _ ?_;clear hK K))
  refine aN _ ?_ rfl rfl (by decide) ?_ (fun K hK=>?_);rotate_left;(intro w0 hw0;have lk:=LK.o w0 hw0.2;go_simp;(try rfl));(go_simp;refine hK _ ?_;clear hK K)
  refine fC [10,72,79,80] (fun vs wx=>vs=[.pointer (some ⟨wd.heap.size,0,none⟩),.tuple #[.agg #[Iz zk,.bool zb,Iz 0,.string ⟨#[]⟩,Sn,Sn],.bool zo],.agg #[Iz zk,.bool zb,Iz 0,.string ⟨#[]⟩,Sn,Sn],.bool zo]∧wx=wd.alloc (.cells Z6 28)) ?_ ?_
  ·refine aF _ rfl ?_ ?_
   rotate_left
   ·go_wp2_with fail;refine Seg.mk ?_
    iterate 2 (refine aG _ ?_ rfl rfl ?_ (fun K hK=>?_);rotate_left;(intro w0;go_simp;(try rfl));(go_simp;refine hK _ ?_;clear hK K))
    refine aF _ rfl trivial ?_;go_wp2_with fail;refine Seg.mk ?_;exact aQ [.pointer (some ⟨wd.heap.size,0,none⟩),.tuple #[.agg #[Iz zk,.bool zb,Iz 0,.string ⟨#[]⟩,Sn,Sn],.bool zo],.agg #[Iz zk,.bool zb,Iz 0,.string ⟨#[]⟩,Sn,Sn],.bool zo] ⟨rfl,rfl⟩ rfl
   ·refine aI _ rfl trivial ?_;go_wp2_with fail
    have ba:=(Br wd.heap.size wd).alloc (o:=.cells Z6 28) (Lr _);refine Seg.mk ⟨⟨⟨(ba.cell (p:=⟨g,1,none⟩) (cD HCD.o.1)).trans HCD.o.1,(ba.cell (p:=⟨b,0,none⟩) (cD HCD.o.2.1)).trans HCD.o.2.1,(ba.cell (p:=⟨b,1,none⟩) (cD HCD.o.2.2)).trans HCD.o.2.2⟩,HPD.o.1.2.1.same (ba.block _ HPD.o.1.2.1.lt)⟩,?_⟩;refine aF _ rfl trivial ?_;go_wp2_with fail;refine Seg.mk ?_
    iterate 2 (refine aG _ ?_ rfl rfl ?_ (fun K hK=>?_);rotate_left;(intro w0;go_simp;(try rfl));(go_simp;refine hK _ ?_;clear hK K))
    exact aQ [.pointer (some ⟨wd.heap.size,0,none⟩),.tuple #[.agg #[Iz zk,.bool zb,Iz 0,.string ⟨#[]⟩,Sn,Sn],.bool zo],.agg #[Iz zk,.bool zb,Iz 0,.string ⟨#[]⟩,Sn,Sn],.bool zo] ⟨rfl,rfl⟩ rfl
  ·rintro vs w' ⟨rfl,hw'⟩
   simp only [gX,Act.put,As,Ay,Az];have kz:=Hn wd (.cells Z6 28);have ba:=(Br wd.heap.size wd).alloc (o:=.cells Z6 28) (Lr _);rw [←hw'] at kz ba;clear hw';have hpz:=HPD.o.1.below ba;have hgz:=aH HPD.o.2 (aK ba (Lr _) _);have hrz:=(ba.block _ (Aa HRD.o)).trans HRD.o;have hne:w.heap.size ≠ wd.heap.size:=by have:=Aa HRD.o;omega
   have hgn:g<wd.heap.size:=HPD.o.1.lt;have kz2:=dB kz (Iz zk) (.bool zb) (Iz 0) (.string ⟨#[]⟩) (Sn) (Sn);have hgs:=aM w' wd.heap.size (Iz zk) (.bool zb) (Iz 0) (.string ⟨#[]⟩) (Sn) (Sn);have hp3:=hpz.kept hgs hgn;have hg3:=gB hgz hgs (Ae HPD.o.2.size (Lr _));have hr3:=cM hgs (fun e=>hne e) hrz
   have fz:=aD kz;have cz:=aA kz;obtain ⟨w3,hw3⟩:∃W,W=dE w' wd.heap.size (Iz zk) (.bool zb) (Iz 0) (.string ⟨#[]⟩) (Sn) (Sn):=⟨_,rfl⟩;rw [←hw3] at kz2 hp3 hg3 hr3;simp only [dE] at hw3;have HP3:=Hh (Ai hp3 hg3);have HR3:=Hh hr3;have K3:=Hh kz2;clear kz ba hpz hgz hrz hgs hp3 hg3 hr3 kz2;refine aF _ rfl trivial ?_;go_wp2_with fail;refine Seg.mk ?_;rw [←hw3];clear hw3 fz cz;refine cG _ rfl trivial ?_;have c3:=aA K3.o;have f3:=aD HR3.o;have e3:=aA HR3.o
   go_wp2
   refine aP (v:=.bool zo) HR3.o results148 rfl rfl rfl ?_;exact iL zk zb 0 ⟨#[]⟩ zo HP3.o.1 HP3.o.2 hgw hl1 (fun _=>hlt1) (by decide) (by decide) HV.o
theorem AE:∀d,d≤20→pC d
 | 0,_=>MA
 | d+1,h=>MB d (by omega) (AE d (by omega))
end Go.Proofs.YtncdpanfefnjlaaGreatDoor