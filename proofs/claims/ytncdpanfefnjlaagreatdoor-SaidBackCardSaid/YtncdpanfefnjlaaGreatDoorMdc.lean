import Derived.Test.YtncdpanfefnjlaaGreatDoorMim
import Derived.Test.YtncdpanfefnjlaaGreatDoorMen
set_option linter.unusedVariables false
set_option linter.unusedSimpArgs false
set_option maxHeartbeats 12800000
set_option maxRecDepth 100000
namespace Go.Proofs.YtncdpanfefnjlaaGreatDoor
open Go.Proofs.Tryz
open Go Go.Maps Go.ChangeShapes Go.WideShapes Go.ChangeAt Go.RowKit
theorem jM {V:ND→Ub→Prop} {d g mb:Nat} {r r':Ub} {w wx:World} (k:Int) (b:Bool) (z:Int) (t:Bt) (ok:Bool) (hp:PrM mb wx g r') (hg:w.grownBy wx (some g)) (hgw:g<w.heap.size) (hl:r'.length≤r.length) (hl2:ok=true→r'.length<r.length) (ht:t.size≤maxLen - 2) (hz:dD z=true)
 (hV:∀y t',V y t'→ok=true∧(.mk k b z t [] [])=y∧r'=t') :
 GV V d g mb r w (.returned (.tuple #[.agg #[Iz k,.bool b,Iz z,.string t,Sn,Sn],.bool ok])) (dE wx w.heap.size (Iz k) (.bool b) (Iz z) (.string t) (Sn) (Sn)):=by
 have hgs:=aM wx w.heap.size (Iz k) (.bool b) (Iz z) (.string t) (Sn) (Sn);exact ⟨[Iz k,.bool b,Iz z,.string t,Sn,Sn],_,ok,r',rfl,(cC _ _ k b z t ht).deeper (by omega),hp.kept hgs hgw,gB hg hgs (Lr _),hl,hl2,⟨⟨by simp [ND.items],fun y hy=>by simp [ND.items] at hy⟩,by unfold aO;show (dD z && _)=true;rw [hz];rfl⟩,hV⟩
theorem WF {V:ND→Ub→Prop} {d g mb:Nat} {r:Ub} {w wX wY:World} {x:ND} {ok:Bool} {r':Ub} {a1 a2:Option Addr} {l1 c1 l2 c2:Nat}
 (hn:aC (d+1) (fun b=>wX.heap.size≤b∧b<wY.heap.size) wY (Nc x a1 l1 c1 a2 l2 c2) x) (hX:w.heap.size<wX.heap.size) (hp:PrM mb wY g r') (hg:w.grownBy wY (some g)) (hgw:g<w.heap.size) (hl:r'.length≤r.length) (hl2:ok=true→r'.length<r.length) (hf:jN (d+1) x∧aO (d+1) x=true) (hV:∀y t,V y t→ok=true∧x=y∧r'=t) :
 GV V d g mb r w (.returned (.tuple #[.agg (Na x a1 l1 c1 a2 l2 c2),.bool ok])) (dE wY w.heap.size (Iz x.kind) (.bool x.bool) (Iz x.num) (.string x.text) (.slice a1 l1 c1) (.slice a2 l2 c2)):=by
 have hgs:=aM wY w.heap.size (Iz x.kind) (.bool x.bool) (Iz x.num) (.string x.text) (.slice a1 l1 c1) (.slice a2 l2 c2);refine ⟨(Nc x a1 l1 c1 a2 l2 c2),x,ok,r',rfl,?_,hp.kept hgs hgw,gB hg hgs (Lr _),hl,hl2,hf,hV⟩;exact (hn.same fun b hb=>hgs.block b hb.2 (by intro e;have:=Ab e;omega)).mono fun b hb=>⟨by omega,Ll hb.2 hgs.size⟩
theorem KG:oZ 0:=by
 intro g mb r w h hr;have hgw:=h.lt;have bA':=(Br w.heap.size w).alloc (o:=.cells Z6 28) (Lr _);have h0:=h.below bA';have hr0:=Hn w (.cells Z6 28);have hg0:=dP w (.cells Z6 28) (some g);have hz0:w.heap.size<(w.alloc (.cells Z6 28)).heap.size:=by simp
 have HD:=Hh (fun (wx:World) (hx:PrM mb wx g r)=>DJ wx hx (by omega))
 clear h bA'
 go_enter func150,ntmps150
 go_upto_region 1 with fail
 generalize w.alloc _=w0 at h0 hr0 hg0 hz0 ⊢
 go_upto_region 2 with ((with_reducible refine (HD.o _ h0).mono ?_);rintro e w1 ⟨k,z,ok,r1,rfl,hp1,hg1,hwz,hkz,hl1,hlt1,hI⟩)
 have hr1:=cM hg1 (by omega) hr0
 have HR:=Hh hr1;have HP:=Hh (Ai hp1 (aH hg0 hg1));have hz1:w.heap.size<w1.heap.size:=Ll hz0 hg1.size;have HI:=Hh hI;have HL:=Hh (Ai hl1 hlt1);have HKZ:=Hh hkz;have HWZ:=Hh hwz;have hr1l:r1.length≤100000:=by omega
 clear hr1 hr0 hp1 hg1 hg0 h0 hz0 HD hI hl1 hlt1 hkz hwz;have f2:=aD HR.o;have e2:=aA HR.o;cases ok
 all_goals
  go_wp2
  refine aP (v:=.bool false) HR.o results150 rfl rfl rfl ?_;exact jM 0 false 0 ⟨#[]⟩ false HP.o.1 HP.o.2 hgw HL.o.1 (fun h=>by cases h) (by decide) (by decide) (fun y t hV=>by have:=hV.1;cases this)
theorem KI (d:Nat) (hd20:d≤20) (PN:oZ d):oZ (d+1):=by
 intro g mb r w h hr;rw [show ((d+1:Nat):Int)=(d:Int)+1 by omega]
 have hd0:(0:Int)≤(d:Int):=by omega
 have hdz:(d:Int)≤20:=by omega
 have h1d:¬ (d:Int)+1<1:=by omega
 have IT:=Hh (fun (k:Int) (hk:k=4∨k=5) (n:Nat) (hn:n<4294967296) (r1:Ub) (wx:World) (hx:PrM mb wx g r1) (h1:r1.length≤100000) (hL:MLr d k n r [] [] r1)=>KJ d hd20 PN k hk n hn wx hx h1 hL)
 clear PN hd20;have hgw:=h.lt;have bA':=(Br w.heap.size w).alloc (o:=.cells Z6 28) (Lr _);have h0:=h.below bA';have hr0:=Hn w (.cells Z6 28);have hg0:=dP w (.cells Z6 28) (some g);have hz0:w.heap.size<(w.alloc (.cells Z6 28)).heap.size:=by simp
 have HD:=Hh (fun (wx:World) (hx:PrM mb wx g r)=>DJ wx hx (by omega))
 clear h bA'
 go_enter func150,ntmps150
 go_upto_region 1 with fail
 generalize w.alloc _=w0 at h0 hr0 hg0 hz0 ⊢
 go_upto_region 2 with ((with_reducible refine (HD.o _ h0).mono ?_);rintro e w1 ⟨k,z,ok,r1,rfl,hp1,hg1,hwz,hkz,hl1,hlt1,hI⟩)
 have hr1:=cM hg1 (by omega) hr0
 have HR:=Hh hr1;have HP:=Hh (Ai hp1 (aH hg0 hg1));have hz1:w.heap.size<w1.heap.size:=Ll hz0 hg1.size;have HI:=Hh hI;have HL:=Hh (Ai hl1 hlt1);have HKZ:=Hh hkz;have HWZ:=Hh hwz;have hr1l:r1.length≤100000:=by omega
 clear hr1 hr0 hp1 hg1 hg0 h0 hz0 HD hI hl1 hlt1 hkz hwz;have f2:=aD HR.o;have e2:=aA HR.o;cases ok with
 | false=>
  go_wp2
  refine aP (v:=.bool false) HR.o results150 rfl rfl rfl ?_;exact jM 0 false 0 ⟨#[]⟩ false HP.o.1 HP.o.2 hgw HL.o.1 (fun h=>by cases h) (by decide) (by decide) (fun y t hV=>by have:=(tY HI.o hV).1;cases this)
 | true=>
  have hl1:=HL.o.1;have hlt1:=HL.o.2 rfl;obtain ⟨hk0,hk5,hkz⟩:=HKZ.o rfl
  by_cases h2:k=2
  ·have HV:Hid (∀y t,MIr (d+1) r y t→(.mk 2 false z ⟨#[]⟩ [] [])=y∧r1=t):=Hh fun y t hy=>by
    obtain ⟨-,e1,e2,e3⟩:=tY HI.o hy;rcases uA hy.1 hy.2.1 with ⟨c1,c2⟩ | ⟨c1,c2⟩ | ⟨c1,cw,c2,c3⟩ | ⟨c1,cw,c2,c3⟩ | ⟨c1,-⟩ | ⟨c1,-⟩
    ·omega
    ·omega
    ·refine ⟨by rw [e2,c2];exact c3.symm,?_⟩
     rw [e3];unfold kK;rw [c1];rfl
    all_goals omega
   subst h2;have NN:=Hh (fun wx=>sL z wx)
   go_wp2_with (go_at_call 171;(with_reducible refine (NN.o _).mono ?_);rintro e w3 ⟨rfl,hb3⟩;(have hr3:=(hb3.block _ (Aa HR.o)).trans HR.o);(have f3:=aD hr3);(have e3:=aA hr3);(have HR3:=Hh hr3);(have HP3:=Hh (Ai (HP.o.1.below hb3) (aH HP.o.2 (aK hb3 (Lr _) _))));clear hr3 f2 e2)
   refine aP (v:=.bool true) HR3.o results150 rfl rfl rfl ?_;exact jM 2 false z ⟨#[]⟩ true HP3.o.1 HP3.o.2 hgw hl1 (fun _=>hlt1) (by decide) HWZ.o (fun y t hy=>⟨rfl,HV.o y t hy⟩)
  by_cases h3:k=3
  ·subst h3
   obtain ⟨hz0,hz9⟩:=hkz (by omega)
   obtain ⟨n,rfl⟩:∃n:Nat,z=(n:Int):=⟨z.toNat,by omega⟩
   by_cases hq:n≤r1.length
   ·have TK:=Hh (fun (wx:World) (hx:PrM mb wx g r1)=>tX n wx hx (by omega) hq)
    have hsz:(bC (r1.take n)).size≤100000:=by rw [eH,Ba];omega
    have HV:Hid (∀y t,MIr (d+1) r y t→(.mk 3 false 0 (bC (r1.take n)) [] [])=y∧r1.drop n=t):=Hh fun y t hy=>by
     obtain ⟨-,e1,e2,e3⟩:=tY HI.o hy;rcases uA hy.1 hy.2.1 with ⟨c1,c2⟩ | ⟨c1,c2⟩ | ⟨c1,cw,c2,c3⟩ | ⟨c1,cw,c2,c3⟩ | ⟨c1,-⟩ | ⟨c1,-⟩
     ·omega
     ·omega
     ·omega
     ·have hbb:kK (bL d) y=y.text.data.toList:=by unfold kK;rw [c1];rfl
      have hnn:y.text.data.toList.length=n:=by rw [Ah];show y.text.size=n;omega
      rw [hbb] at e3;refine ⟨?_,by rw [e3,List.drop_left' hnn]⟩
      rw [e3,List.take_left' hnn,qG];exact c3.symm
     all_goals omega
    have hl2:(r1.drop n).length≤r1.length:=by rw [Cb];omega
    obtain ⟨sx,hsx⟩:∃sx,sx=bC (r1.take n):=⟨_,rfl⟩;obtain ⟨rx,hrx⟩:∃rx,rx=r1.drop n:=⟨_,rfl⟩;rw [←hsx,←hrx] at TK HV;rw [←hsx] at hsz;rw [←hrx] at hl2;clear hsx hrx hq f2 e2 hkz h2 hk0 hk5 hz0 hz9;have NT:=Hh (fun wx=>gA sx wx)
    go_upto_region 9 with ((with_reducible refine (TK.o _ HP.o.1).mono ?_);rintro e w2 ⟨rfl,hp2,hg2⟩)
    have hr2:=cM hg2 (by omega) HR.o
    have HR2:=Hh hr2;have HP2:=Hh (Ai hp2 (aH HP.o.2 hg2));clear hr2 hp2 hg2
    go_wp2_with (go_at_call 50;(with_reducible refine (NT.o _).mono ?_);rintro e w3 ⟨rfl,hb3⟩;(have hr3:=(hb3.block _ (Aa HR2.o)).trans HR2.o);(have f3:=aD hr3);(have e3:=aA hr3);(have HR3:=Hh hr3);(have HP3:=Hh (Ai (HP2.o.1.below hb3) (aH HP2.o.2 (aK hb3 (Lr _) _))));clear hr3)
    refine aP (v:=.bool true) HR3.o results150 rfl rfl rfl ?_;exact jM 3 false 0 sx true HP3.o.1 HP3.o.2 hgw (by omega) (fun _=>by omega) (by unfold maxLen;omega) (by decide) (fun y t hy=>⟨rfl,HV.o y t hy⟩)
   ·have TK:=Hh (fun (wx:World) (hx:PrM mb wx g r1)=>zE n wx hx (by omega) hq)
    have HV:Hid (∀y t,¬MIr (d+1) r y t):=Hh fun y t hy=>by
     obtain ⟨-,e1,e2,e3⟩:=tY HI.o hy;rcases uA hy.1 hy.2.1 with ⟨c1,c2⟩ | ⟨c1,c2⟩ | ⟨c1,cw,c2,c3⟩ | ⟨c1,cw,c2,c3⟩ | ⟨c1,-⟩ | ⟨c1,-⟩
     ·omega
     ·omega
     ·omega
     ·have hbb:kK (bL d) y=y.text.data.toList:=by unfold kK;rw [c1];rfl
      have hnn:y.text.data.toList.length=n:=by rw [Ah];show y.text.size=n;omega
      rw [hbb] at e3;have:=Ad List.length e3;rw [Lg] at this;omega
     all_goals omega
    clear hq f2 e2 hkz h2 hk0 hk5 hz0 hz9;have NT:=Hh (fun wx=>gA ⟨#[]⟩ wx)
    go_upto_region 9 with ((with_reducible refine (TK.o _ HP.o.1).mono ?_);rintro e w2 ⟨rfl,hp2,hg2⟩)
    have hr2:=cM hg2 (by omega) HR.o
    have HR2:=Hh hr2;have HP2:=Hh (Ai hp2 (aH HP.o.2 hg2));clear hr2 hp2 hg2
    go_wp2_with (go_at_call 50;(with_reducible refine (NT.o _).mono ?_);rintro e w3 ⟨rfl,hb3⟩;(have hr3:=(hb3.block _ (Aa HR2.o)).trans HR2.o);(have f3:=aD hr3);(have e3:=aA hr3);(have HR3:=Hh hr3);(have HP3:=Hh (Ai (HP2.o.1.below hb3) (aH HP2.o.2 (aK hb3 (Lr _) _))));clear hr3)
    refine aP (v:=.bool false) HR3.o results150 rfl rfl rfl ?_;exact jM 3 false 0 ⟨#[]⟩ false HP3.o.1 HP3.o.2 hgw hl1 (fun h=>by cases h) (by decide) (by decide) (fun y t hy=>absurd hy (HV.o y t))
  by_cases h45:k=4∨k=5
  ·obtain ⟨hz0,hz9⟩:=hkz (by omega)
   obtain ⟨n,rfl⟩:∃n:Nat,z=(n:Int):=⟨z.toNat,by omega⟩
   have HLS:=Hh (MLr.start (d:=d) HI.o h45);have ITC:=Hh (IT.o k h45 n (by omega) r1 w1 HP.o.1 (by omega) HLS.o)
   have hb2:(k == 2)=false:=by simp;omega
   have hb3:(k == 3)=false:=by simp;omega
   rcases h45 with rfl | rfl
   all_goals
    clear hkz h2 h3 hk0 hk5 hz0 hz9 hb2 hb3 f2 e2
    go_wp2_with (go_at_call 178;(with_reducible refine (ITC.o).mono ?_);rintro e w3 ⟨cs,x,ok,r',rfl,hnode,hp3,hg3,hl3,hlt3,hf3,hv3⟩;go_loud ((obtain ⟨a1,l1,c1,a2,l2,c2,hcs⟩:=hnode.slices);subst hcs;(have hr3:=cM hg3 (by omega) HR.o);(have f3:=aD hr3);(have e3:=aA hr3);(have HR3:=Hh hr3);(have HN3:=Hh (Ai hnode (Ai hp3 (Ai (aH HP.o.2 hg3) (Ai hl3 (Ai hf3 hv3))))));clear hr3 hnode hp3 hg3 hl3 hlt3 hf3 hv3))
    refine aP (v:=.bool ok) HR3.o results150 rfl rfl rfl ?_;exact WF HN3.o.1 hz1 HN3.o.2.1 HN3.o.2.2.1 hgw (by have:=HN3.o.2.2.2.1;omega) (fun h=>by have:=HN3.o.2.2.2.1;omega) HN3.o.2.2.2.2.1 HN3.o.2.2.2.2.2
  have h01:k=0∨k=1:=by omega
  have HV:Hid (∀y t,MIr (d+1) r y t→(.mk k (z == 1) 0 ⟨#[]⟩ [] [])=y∧r1=t):=Hh fun y t hy=>by
   obtain ⟨-,e1,e2,e3⟩:=tY HI.o hy;rcases uA hy.1 hy.2.1 with ⟨c1,c2⟩ | ⟨c1,c2⟩ | ⟨c1,-⟩ | ⟨c1,-⟩ | ⟨c1,-⟩ | ⟨c1,-⟩
   ·have hpz:gR y=0:=by unfold gR;rw [c1];rfl
    rw [e1,e2,c1,hpz,e3];refine ⟨c2.symm,?_⟩;unfold kK;rw [c1];rfl
   ·rw [e1,e2,c1,e3]
    refine ⟨?_,by unfold kK;rw [c1];rfl⟩
    rw [show (gR y == 1)=decide (gR y=1) from rfl]
    exact c2.symm
   all_goals omega
  have hb2:(k == 2)=false:=by simp;omega
  have hb3:(k == 3)=false:=by simp;omega
  have hb4:(k == 4)=false:=by simp;omega
  have hb5:(k == 5)=false:=by simp;omega
  obtain ⟨b,hb⟩:∃b,(z == 1)=b:=⟨_,rfl⟩;rw [hb] at HV;clear h2 h3 h45 h01 hkz
  go_wp2
  refine aP (v:=.bool true) HR.o results150 rfl rfl rfl ?_;exact jM k b 0 ⟨#[]⟩ true HP.o.1 HP.o.2 hgw hl1 (fun _=>hlt1) (by decide) (by decide) (fun y t hy=>⟨rfl,HV.o y t hy⟩)
theorem zG:∀d,d≤21→oZ d
 | 0,_=>KG
 | d+1,h=>KI d (by omega) (zG d (by omega))
end Go.Proofs.YtncdpanfefnjlaaGreatDoor
namespace Go.Proofs.YtncdpanfefnjlaaGreatDoor
open Go.Proofs.Tryz
open Go Go.ChangeShapes Go.WideShapes Go.ChangeAt Go.RowKit
theorem mX {s:Bt} {w wx:World} (hb:Below w.heap.size w wx) (hV:rH s nd0 4) :
 MR s w (.returned (.tuple #[.agg Z6,Iz 4])) (dE wx w.heap.size (Iz 0) (.bool false) (Iz 0) (.string ⟨#[]⟩) (Sn) (Sn)):=by
 have hgs:=aM wx w.heap.size (Iz 0) (.bool false) (Iz 0) (.string ⟨#[]⟩) (Sn) (Sn);exact ⟨Y6,nd0,4,rfl,(cC _ _ 0 false 0 ⟨#[]⟩ (by decide)).deeper (by decide),hb.grown hgs hb.size (fun k hk=>by cases hk;exact Lr _),hV⟩
theorem WC (s:Bt) (w:World) (hT:YS w):Calls prog 133 #[.string s] w (MR s w):=by
 have b0:=(Br w.heap.size w).alloc (o:=.cells Z6 28) (Lr _);have hr0:=Hn w (.cells Z6 28);have hz0:w.heap.size<(w.alloc (.cells Z6 28)).heap.size:=by simp
 by_cases hl:65536<s.size
 ·have hl':(65536:Int)<(s.size:Int):=by omega
  have HV:Hid (rH s nd0 4):=Hh (.inr ⟨rfl,rfl,fun y _ _ h=>absurd h (by omega)⟩)
  have B0:=Hh b0;have HR:=Hh hr0;have f1:=aD hr0;have c1:=aA hr0;clear hl b0 hr0
  go_enter func133,ntmps133
  go_upto_region 1 with fail
  generalize w.alloc (.cells Z6 28)=w0 at B0 HR f1 c1 ⊢
  go_wp2
  refine aP (v:=Iz 4) HR.o results133 rfl rfl rfl ?_;exact mX B0.o HV.o
 ·have hl':¬ (65536:Int)<(s.size:Int):=by omega
  have hsl:s.data.toList.length=s.size:=by rw [Ah];rfl
  have HT:=Hh hT;have HL:=Hh hl;clear hT hl
  go_enter func133,ntmps133
  go_upto_region 1 with fail
  obtain ⟨w0,hw0⟩:∃W,W=w.alloc (.cells Z6 28):=⟨_,rfl⟩;rw [←hw0] at b0 hr0 hz0;rw [←hw0];clear hw0;have HR:=Hh hr0;have B0:=Hh b0;clear hr0 b0;have hb3:=(Br w0.heap.size w0).alloc (o:=.cells #[.string s] 193) (Lr _);have hg3:=Hn w0 (.cells #[.string s] 193);have hB3:=B0.o.trans (hb3.mono B0.o.size)
  go_upto_region 4 with fail
  generalize w0.alloc _=w3 at hb3 hg3 hB3 ⊢;have hp3:PrM w.heap.size w3 w0.heap.size s.data.toList:=⟨by rw [qG];exact hg3,HT.o.s.below hB3,B0.o.size⟩
  have hgw:w.heap.size≤w0.heap.size:=B0.o.size;have hr3:=(hb3.block _ (Aa HR.o)).trans HR.o;have hg0w:w0.heap.size≤w3.heap.size:=hb3.size;have ND':Hid (Calls prog 150 #[.pointer (some ⟨w0.heap.size,0,none⟩),Iz 8] w3 (GV (MIr 8 s.data.toList) 8 w0.heap.size w.heap.size s.data.toList w3)):=Hh (zG 8 (by decide) w0.heap.size w.heap.size s.data.toList w3 hp3 (by have:=HL.o;omega))
  have HB3:=Hh hB3;have HR3:=Hh hr3;have hgr:w.heap.size ≠ w0.heap.size:=by have:=Aa HR.o;omega
  generalize hgx:w0.heap.size=gx at ND' hgw hgr ⊢;clear hgx hp3 hb3 hg3 hB3 hr3 B0 HR
  go_upto_region 5 with ((with_reducible refine (ND'.out).mono ?_);rintro e5 w5 ⟨cs,x,ok,r',rfl,hnode,hp5,hg5,hl5,hlt5,hf5,hv5⟩;go_loud ((obtain ⟨a1,l1,c1,a2,l2,c2,hcs⟩:=hnode.slices);subst hcs))
  have hv8:s.size≤65536→∀y,aB 8 y=true→aO 8 y=true→bL 8 y=s.data.toList→ok=true∧x=y:=fun _ y h1 h2 h3=>by
   have:=hv5 y [] ⟨h1,h2,by rw [Bu,h3]⟩
   exact ⟨this.1,this.2.1⟩
  have hB5:Below w.heap.size w w5:=HB3.o.grown hg5 HB3.o.size (fun k hk=>by cases hk;exact hgw)
  have hr5:=cM hg5 hgr HR3.o;have b6:=(Br w5.heap.size w5).alloc (o:=.cells (Na x a1 l1 c1 a2 l2 c2) 28) (Lr _);have hn6:=Hn w5 (.cells (Na x a1 l1 c1 a2 l2 c2) 28);have hnd6:=hnode.same fun b hb=>b6.block b hb.2
  have hB6:=hB5.trans (b6.mono hB5.size);have hr6:=(b6.block _ (Aa hr5)).trans hr5;have hz6:w5.heap.size<(w5.alloc (.cells (Na x a1 l1 c1 a2 l2 c2) 28)).heap.size:=by simp
  have hne5:w.heap.size ≠ w5.heap.size:=by have:=Aa hr5;omega
  obtain ⟨w6,hw6⟩:∃W,W=w5.alloc (.cells (Na x a1 l1 c1 a2 l2 c2) 28):=⟨_,rfl⟩;rw [←hw6] at b6 hn6 hnd6 hB6 hr6 hz6;rw [←hw6];have hz3:w.heap.size≤w3.heap.size:=HB3.o.size;have HV8:=Hh hv8;have HB6:=Hh hB6;have HN6:=Hh hnd6;have HR6:=Hh hr6;have HZ6:=Hh (Ai hz6 hz3);have hnum8:aO 8 x=true:=vT (by decide) hf5.2
  have hlow9:jN 9 x:=hf5.1;have EN:=Hh (DI _ x w6 hnd6 (fun b hb=>Cl hb.2 hz6) hlow9 (fun _=>hnum8) (HT.o.below hB6))
  have HN8:=Hh hnum8;clear hw6 hv8 hv5 hB5 hr5 b6 hnd6 hB6 hr6 hz6 hnode hp5 hg5 hf5 hl5 hlt5 HB3 HR3 ND' hnum8 hlow9 HT;have cn:=aA hn6;have HN66:=Hh hn6;clear hn6
  go_upto_region 6 with ((with_reducible refine (EN.o).mono ?_);rintro e7 w7 ⟨rfl,hb7⟩)
  have hB7:=HB6.o.trans (hb7.mono HB6.o.size);have hr7:=(hb7.block _ (Aa HR6.o)).trans HR6.o;have hn7:=(hb7.block _ (Aa HN66.o)).trans HN66.o;have hnd7:=HN6.o.same fun b hb=>hb7.block b (Cl hb.2 HZ6.o.1)
  have HB7:=Hh hB7;have HR7:=Hh hr7;have HND7:=Hh (Ai hnd7 hb7.size);clear hB7 hr7 hnd7 hb7 EN HN66 cn;cases ok with
  | false=>
   have HV:Hid (rH s nd0 4):=Hh (.inr ⟨rfl,rfl,fun y h1 h2 h3 h4=>by have:=(HV8.o h3 y h1 h2 h4).1;cases this⟩)
   have f1:=aD HR7.o;have cz1:=aA HR7.o;clear hn7
   go_wp2
   refine aP (v:=Iz 4) HR7.o results133 rfl rfl rfl ?_;exact mX HB7.o HV.o
  | true=>
   by_cases hbad:mpE x ≠ 0∨mpS x ≠ s
   ·have HV:Hid (rH s nd0 4):=Hh (.inr ⟨rfl,rfl,fun y h1 h2 h3 h4=>by
     obtain ⟨-,rfl⟩:=HV8.o h3 y h1 h2 h4;have hlen:¬65536<(bL 8 x).length:=by rw [h4,hsl];omega
     obtain ⟨g1,g2⟩:=pI h1 hlen;rcases hbad with h | h
     ·exact h g2
     ·apply h;rw [g1,h4,qG]⟩)
    clear hn7
    by_cases hE0:mpE x=0
    ·have hS0:mpS x ≠ s:=hbad.resolve_left (fun h=>h hE0)
     have hSb:((mpS x).toList == s.toList)=false:=by
      rw [Ci,Ci];exact Db.2 fun h=>hS0 (by rw [←qG (mpS x),h,qG])
     have hEb:(mpE x != 0)=false:=by simpa using hE0
     clear hbad;rw [hE0];have f1:=aD HR7.o;have cz1:=aA HR7.o
     go_wp2
     refine aP (v:=Iz 4) HR7.o results133 rfl rfl rfl ?_;exact mX HB7.o HV.o
    ·have hEb:(mpE x != 0)=true:=by simpa using hE0
     clear hbad;have f1:=aD HR7.o;have cz1:=aA HR7.o
     go_wp2
     refine aP (v:=Iz 4) HR7.o results133 rfl rfl rfl ?_;exact mX HB7.o HV.o
   ·have hE0:mpE x=0:=Dq fun h=>hbad (.inl h)
    have hS0:mpS x=s:=Dq fun h=>hbad (.inr h)
    have HV:Hid (rH s x 0):=Hh (by
     have hv:aB 8 x=true:=by
      cases q:aB 8 x with
      | true=>rfl
      | false=>rw [(zF q).2] at hE0;cases hE0
     have hlen:¬65536<(bL 8 x).length:=fun q=>by rw [(tZ hv q).2] at hE0;cases hE0
     have hw:bL 8 x=s.data.toList:=by rw [←hS0,(pI hv hlen).1,iE]
     exact .inl ⟨rfl,hv,HN8.o,hw,by rw [hw,hsl] at hlen;omega⟩)
    clear hbad;rw [hE0,hS0];have f1:=aD HR7.o;have cz1:=aA HR7.o;have cn:=aA hn7
    go_wp2
    refine aP (v:=Iz 0) HR7.o results133 rfl rfl rfl ?_;have hgs:=aM w7 w.heap.size (Iz x.kind) (.bool x.bool) (Iz x.num) (.string x.text) (.slice a1 l1 c1) (.slice a2 l2 c2);refine ⟨(Nc x a1 l1 c1 a2 l2 c2),x,0,rfl,?_,HB7.o.grown hgs HB7.o.size (fun k hk=>by cases hk;exact Lr _),HV.o⟩
    have hz:=HZ6.o;have hz7:=HND7.o.2;have hr:=Aa HR7.o;exact (HND7.o.1.same fun b hb=>hgs.block b (by omega) (by intro e;have:=Ab e;omega)).mono fun b hb=>⟨by omega,Ll (by omega) hgs.size⟩
end Go.Proofs.YtncdpanfefnjlaaGreatDoor