/- The program's parser of the third serialisation: node, at any depth. Then: Decode of the third serialisation, the program's own. -/
import Derived.Test.YtdppdonaojdceaaGreatDoorMde
import Derived.Test.YtdppdonaojdceaaGreatDoorMen
import Derived.Test.YtdppdonaojdceaaGreatDoorMim
set_option linter.unusedVariables false
set_option linter.unusedSimpArgs false
set_option maxHeartbeats 12800000
set_option maxRecDepth 100000
namespace Go.Proofs.YtdppdonaojdceaaGreatDoor
open Go Go.Maps Go.ChangeShapes Go.WideShapes Go.ChangeAt Go.RowKit
theorem mnleaf_res {V:ND→List UInt8→Prop} {d g mb:Nat} {r r':List UInt8} {w wx:World} (k:Int) (b:Bool) (z:Int) (t:ByteArray) (ok:Bool) (hp:PrM mb wx g r') (hg:w.grownBy wx (some g)) (hgw:g<w.heap.size) (hl:r'.length≤r.length) (hl2:ok=true→r'.length<r.length) (ht:t.size≤maxLen - 2) (hz:wideI z=true)
 (hV:∀y t',V y t'→ok=true∧(.mk k b z t [] [])=y∧r'=t') :
 MnPost V d g mb r w (.returned (.tuple #[.agg #[.int .i64 k,.bool b,.int .i64 z,.string t,.slice none 0 0,.slice none 0 0],.bool ok])) (set6 wx w.heap.size (.int .i64 k) (.bool b) (.int .i64 z) (.string t) (.slice none 0 0) (.slice none 0 0)):=by
 have hgs:=grown_set6 wx w.heap.size (.int .i64 k) (.bool b) (.int .i64 z) (.string t) (.slice none 0 0) (.slice none 0 0)
 exact ⟨[.int .i64 k,.bool b,.int .i64 z,.string t,.slice none 0 0,.slice none 0 0],_,ok,r',rfl,(node_leaf _ _ k b z t ht).deeper (by omega),hp.kept hgs hgw,grown_new hg hgs (Lr _),hl,hl2,⟨⟨by simp [ND.items],fun y hy=>by simp [ND.items] at hy⟩,by unfold numsB;show (wideI z && _)=true;rw [hz];rfl⟩,hV⟩
theorem mnpost_on {V:ND→List UInt8→Prop} {d g mb:Nat} {r:List UInt8} {w wX wY:World} {x:ND} {ok:Bool} {r':List UInt8} {a1 a2:Option Addr} {l1 c1 l2 c2:Nat}
 (hn:NodeIn (d+1) (fun b=>wX.heap.size≤b∧b<wY.heap.size) wY [.int .i64 x.kind,.bool x.bool,.int .i64 x.num,.string x.text,.slice a1 l1 c1,.slice a2 l2 c2] x) (hX:w.heap.size<wX.heap.size) (hp:PrM mb wY g r') (hg:w.grownBy wY (some g)) (hgw:g<w.heap.size) (hl:r'.length≤r.length) (hl2:ok=true→r'.length<r.length) (hf:lowV (d+1) x∧numsB (d+1) x=true) (hV:∀y t,V y t→ok=true∧x=y∧r'=t) :
 MnPost V d g mb r w (.returned (.tuple #[.agg #[.int .i64 x.kind,.bool x.bool,.int .i64 x.num,.string x.text,.slice a1 l1 c1,.slice a2 l2 c2],.bool ok])) (set6 wY w.heap.size (.int .i64 x.kind) (.bool x.bool) (.int .i64 x.num) (.string x.text) (.slice a1 l1 c1) (.slice a2 l2 c2)):=by
 have hgs:=grown_set6 wY w.heap.size (.int .i64 x.kind) (.bool x.bool) (.int .i64 x.num) (.string x.text) (.slice a1 l1 c1) (.slice a2 l2 c2)
 refine ⟨[.int .i64 x.kind,.bool x.bool,.int .i64 x.num,.string x.text,.slice a1 l1 c1,.slice a2 l2 c2],x,ok,r',rfl,?_,hp.kept hgs hgw,grown_new hg hgs (Lr _),hl,hl2,hf,hV⟩
 exact (hn.same fun b hb=>hgs.block b hb.2 (by intro e;have:=Option.some.inj e;omega)).mono fun b hb=>⟨by omega,Ll hb.2 hgs.size⟩
theorem mpnode_zero:MpNodeAt 0:=by
 intro g mb r w h hr
 have hgw:=h.lt
 have bA':=(Br w.heap.size w).alloc (o:=.cells #[.int .i64 0,.bool false,.int .i64 0,.string ⟨#[]⟩,.slice none 0 0,.slice none 0 0] 30) (Lr _)
 have h0:=h.below bA'
 have hr0:=Hn w (.cells #[.int .i64 0,.bool false,.int .i64 0,.string ⟨#[]⟩,.slice none 0 0,.slice none 0 0] 30)
 have hg0:=galloc w (.cells #[.int .i64 0,.bool false,.int .i64 0,.string ⟨#[]⟩,.slice none 0 0,.slice none 0 0] 30) (some g)
 have hz0:w.heap.size<(w.alloc (.cells #[.int .i64 0,.bool false,.int .i64 0,.string ⟨#[]⟩,.slice none 0 0,.slice none 0 0] 30)).heap.size:=by simp
 have HD:=Hh (fun (wx:World) (hx:PrM mb wx g r)=>mhead_any wx hx (by omega))
 clear h bA'
 go_enter Tryz.func72,Tryz.ntmps72
 go_upto_region 1 with fail
 generalize w.alloc _=w0 at h0 hr0 hg0 hz0 ⊢
 go_upto_region 2 with ((with_reducible refine (HD.out _ h0).mono ?_);rintro e w1 ⟨k,z,ok,r1,rfl,hp1,hg1,hwz,hkz,hl1,hlt1,hI⟩)
 have hr1:=keepG hg1 (by omega) hr0
 have HR:=Hh hr1
 have HP:=Hh (Ai hp1 (gtrans hg0 hg1))
 have hz1:w.heap.size<w1.heap.size:=Ll hz0 hg1.size
 have HI:=Hh hI
 have HL:=Hh (Ai hl1 hlt1)
 have HKZ:=Hh hkz
 have HWZ:=Hh hwz
 have hr1l:r1.length≤100000:=by omega
 clear hr1 hr0 hp1 hg1 hg0 h0 hz0 HD hI hl1 hlt1 hkz hwz
 have f2:=free_six HR.out
 have e2:=six_of HR.out
 cases ok
 all_goals
  go_wp2
  refine ret_node (v:=.bool false) HR.out Tryz.results72 rfl rfl rfl ?_
  exact mnleaf_res 0 false 0 ⟨#[]⟩ false HP.out.1 HP.out.2 hgw HL.out.1 (fun h=>by cases h) (by decide) (by decide) (fun y t hV=>by have:=hV.1;cases this)
theorem mpnode_step (d:Nat) (hd20:d≤20) (PN:MpNodeAt d):MpNodeAt (d+1):=by
 intro g mb r w h hr
 rw [show ((d+1:Nat):Int)=(d:Int)+1 by omega]
 have hd0:(0:Int)≤(d:Int):=by omega
 have hdz:(d:Int)≤20:=by omega
 have h1d:¬ (d:Int)+1<1:=by omega
 have IT:=Hh (fun (k:Int) (hk:k=4∨k=5) (n:Nat) (hn:n<4294967296) (r1:List UInt8) (wx:World) (hx:PrM mb wx g r1) (h1:r1.length≤100000) (hL:MLr d k n r [] [] r1)=>mpitems_any d hd20 PN k hk n hn wx hx h1 hL)
 clear PN hd20
 have hgw:=h.lt
 have bA':=(Br w.heap.size w).alloc (o:=.cells #[.int .i64 0,.bool false,.int .i64 0,.string ⟨#[]⟩,.slice none 0 0,.slice none 0 0] 30) (Lr _)
 have h0:=h.below bA'
 have hr0:=Hn w (.cells #[.int .i64 0,.bool false,.int .i64 0,.string ⟨#[]⟩,.slice none 0 0,.slice none 0 0] 30)
 have hg0:=galloc w (.cells #[.int .i64 0,.bool false,.int .i64 0,.string ⟨#[]⟩,.slice none 0 0,.slice none 0 0] 30) (some g)
 have hz0:w.heap.size<(w.alloc (.cells #[.int .i64 0,.bool false,.int .i64 0,.string ⟨#[]⟩,.slice none 0 0,.slice none 0 0] 30)).heap.size:=by simp
 have HD:=Hh (fun (wx:World) (hx:PrM mb wx g r)=>mhead_any wx hx (by omega))
 clear h bA'
 go_enter Tryz.func72,Tryz.ntmps72
 go_upto_region 1 with fail
 generalize w.alloc _=w0 at h0 hr0 hg0 hz0 ⊢
 go_upto_region 2 with ((with_reducible refine (HD.out _ h0).mono ?_);rintro e w1 ⟨k,z,ok,r1,rfl,hp1,hg1,hwz,hkz,hl1,hlt1,hI⟩)
 have hr1:=keepG hg1 (by omega) hr0
 have HR:=Hh hr1
 have HP:=Hh (Ai hp1 (gtrans hg0 hg1))
 have hz1:w.heap.size<w1.heap.size:=Ll hz0 hg1.size
 have HI:=Hh hI
 have HL:=Hh (Ai hl1 hlt1)
 have HKZ:=Hh hkz
 have HWZ:=Hh hwz
 have hr1l:r1.length≤100000:=by omega
 clear hr1 hr0 hp1 hg1 hg0 h0 hz0 HD hI hl1 hlt1 hkz hwz
 have f2:=free_six HR.out
 have e2:=six_of HR.out
 cases ok with
 | false=>
  go_wp2
  refine ret_node (v:=.bool false) HR.out Tryz.results72 rfl rfl rfl ?_
  exact mnleaf_res 0 false 0 ⟨#[]⟩ false HP.out.1 HP.out.2 hgw HL.out.1 (fun h=>by cases h) (by decide) (by decide) (fun y t hV=>by have:=(mrhead HI.out hV).1;cases this)
 | true=>
  have hl1:=HL.out.1
  have hlt1:=HL.out.2 rfl
  obtain ⟨hk0,hk5,hkz⟩:=HKZ.out rfl
  by_cases h2:k=2
  ·have HV:Hid (∀y t,MIr (d+1) r y t→(.mk 2 false z ⟨#[]⟩ [] [])=y∧r1=t):=Hh fun y t hy=>by
    obtain ⟨-,e1,e2,e3⟩:=mrhead HI.out hy
    rcases mcases hy.1 hy.2.1 with ⟨c1,c2⟩ | ⟨c1,c2⟩ | ⟨c1,cw,c2,c3⟩ | ⟨c1,cw,c2,c3⟩ | ⟨c1,-⟩ | ⟨c1,-⟩
    ·omega
    ·omega
    ·refine ⟨by rw [e2,c2];exact c3.symm,?_⟩
     rw [e3]
     unfold bodyM
     rw [c1];rfl
    all_goals omega
   subst h2
   have NN:=Hh (fun wx=>nnum_any z wx)
   go_wp2_with (go_at_call 106;(with_reducible refine (NN.out _).mono ?_);rintro e w3 ⟨rfl,hb3⟩;(have hr3:=(hb3.block _ (lt_of_block HR.out)).trans HR.out);(have f3:=free_six hr3);(have e3:=six_of hr3);(have HR3:=Hh hr3);(have HP3:=Hh (Ai (HP.out.1.below hb3) (gtrans HP.out.2 (grown_of_below hb3 (Lr _) _))));clear hr3 f2 e2)
   refine ret_node (v:=.bool true) HR3.out Tryz.results72 rfl rfl rfl ?_
   exact mnleaf_res 2 false z ⟨#[]⟩ true HP3.out.1 HP3.out.2 hgw hl1 (fun _=>hlt1) (by decide) HWZ.out (fun y t hy=>⟨rfl,HV.out y t hy⟩)
  by_cases h3:k=3
  ·subst h3
   obtain ⟨hz0,hz9⟩:=hkz (by omega)
   obtain ⟨n,rfl⟩:∃n:Nat,z=(n:Int):=⟨z.toNat,by omega⟩
   by_cases hq:n≤r1.length
   ·have TK:=Hh (fun (wx:World) (hx:PrM mb wx g r1)=>mtake_yes n wx hx (by omega) hq)
    have hsz:(bC (r1.take n)).size≤100000:=by rw [bC_size,List.length_take];omega
    have HV:Hid (∀y t,MIr (d+1) r y t→(.mk 3 false 0 (bC (r1.take n)) [] [])=y∧r1.drop n=t):=Hh fun y t hy=>by
     obtain ⟨-,e1,e2,e3⟩:=mrhead HI.out hy
     rcases mcases hy.1 hy.2.1 with ⟨c1,c2⟩ | ⟨c1,c2⟩ | ⟨c1,cw,c2,c3⟩ | ⟨c1,cw,c2,c3⟩ | ⟨c1,-⟩ | ⟨c1,-⟩
     ·omega
     ·omega
     ·omega
     ·have hbb:bodyM (writeP d) y=y.text.data.toList:=by unfold bodyM;rw [c1];rfl
      have hnn:y.text.data.toList.length=n:=by rw [Array.length_toList];show y.text.size=n;omega
      rw [hbb] at e3
      refine ⟨?_,by rw [e3,List.drop_left' hnn]⟩
      rw [e3,List.take_left' hnn,bC_of];exact c3.symm
     all_goals omega
    have hl2:(r1.drop n).length≤r1.length:=by rw [List.length_drop];omega
    obtain ⟨sx,hsx⟩:∃sx,sx=bC (r1.take n):=⟨_,rfl⟩
    obtain ⟨rx,hrx⟩:∃rx,rx=r1.drop n:=⟨_,rfl⟩
    rw [←hsx,←hrx] at TK HV
    rw [←hsx] at hsz
    rw [←hrx] at hl2
    clear hsx hrx hq f2 e2 hkz h2 hk0 hk5 hz0 hz9
    have NT:=Hh (fun wx=>ntext_any sx wx)
    go_upto_region 9 with ((with_reducible refine (TK.out _ HP.out.1).mono ?_);rintro e w2 ⟨rfl,hp2,hg2⟩)
    have hr2:=keepG hg2 (by omega) HR.out
    have HR2:=Hh hr2
    have HP2:=Hh (Ai hp2 (gtrans HP.out.2 hg2))
    clear hr2 hp2 hg2
    go_wp2_with (go_at_call 91;(with_reducible refine (NT.out _).mono ?_);rintro e w3 ⟨rfl,hb3⟩;(have hr3:=(hb3.block _ (lt_of_block HR2.out)).trans HR2.out);(have f3:=free_six hr3);(have e3:=six_of hr3);(have HR3:=Hh hr3);(have HP3:=Hh (Ai (HP2.out.1.below hb3) (gtrans HP2.out.2 (grown_of_below hb3 (Lr _) _))));clear hr3)
    refine ret_node (v:=.bool true) HR3.out Tryz.results72 rfl rfl rfl ?_
    exact mnleaf_res 3 false 0 sx true HP3.out.1 HP3.out.2 hgw (by omega) (fun _=>by omega) (by unfold maxLen;omega) (by decide) (fun y t hy=>⟨rfl,HV.out y t hy⟩)
   ·have TK:=Hh (fun (wx:World) (hx:PrM mb wx g r1)=>mtake_no n wx hx (by omega) hq)
    have HV:Hid (∀y t,¬MIr (d+1) r y t):=Hh fun y t hy=>by
     obtain ⟨-,e1,e2,e3⟩:=mrhead HI.out hy
     rcases mcases hy.1 hy.2.1 with ⟨c1,c2⟩ | ⟨c1,c2⟩ | ⟨c1,cw,c2,c3⟩ | ⟨c1,cw,c2,c3⟩ | ⟨c1,-⟩ | ⟨c1,-⟩
     ·omega
     ·omega
     ·omega
     ·have hbb:bodyM (writeP d) y=y.text.data.toList:=by unfold bodyM;rw [c1];rfl
      have hnn:y.text.data.toList.length=n:=by rw [Array.length_toList];show y.text.size=n;omega
      rw [hbb] at e3
      have:=congrArg List.length e3
      rw [Lg] at this
      omega
     all_goals omega
    clear hq f2 e2 hkz h2 hk0 hk5 hz0 hz9
    have NT:=Hh (fun wx=>ntext_any ⟨#[]⟩ wx)
    go_upto_region 9 with ((with_reducible refine (TK.out _ HP.out.1).mono ?_);rintro e w2 ⟨rfl,hp2,hg2⟩)
    have hr2:=keepG hg2 (by omega) HR.out
    have HR2:=Hh hr2
    have HP2:=Hh (Ai hp2 (gtrans HP.out.2 hg2))
    clear hr2 hp2 hg2
    go_wp2_with (go_at_call 91;(with_reducible refine (NT.out _).mono ?_);rintro e w3 ⟨rfl,hb3⟩;(have hr3:=(hb3.block _ (lt_of_block HR2.out)).trans HR2.out);(have f3:=free_six hr3);(have e3:=six_of hr3);(have HR3:=Hh hr3);(have HP3:=Hh (Ai (HP2.out.1.below hb3) (gtrans HP2.out.2 (grown_of_below hb3 (Lr _) _))));clear hr3)
    refine ret_node (v:=.bool false) HR3.out Tryz.results72 rfl rfl rfl ?_
    exact mnleaf_res 3 false 0 ⟨#[]⟩ false HP3.out.1 HP3.out.2 hgw hl1 (fun h=>by cases h) (by decide) (by decide) (fun y t hy=>absurd hy (HV.out y t))
  by_cases h45:k=4∨k=5
  ·obtain ⟨hz0,hz9⟩:=hkz (by omega)
   obtain ⟨n,rfl⟩:∃n:Nat,z=(n:Int):=⟨z.toNat,by omega⟩
   have HLS:=Hh (MLr.start (d:=d) HI.out h45)
   have ITC:=Hh (IT.out k h45 n (by omega) r1 w1 HP.out.1 (by omega) HLS.out)
   have hb2:(k == 2)=false:=by simp;omega
   have hb3:(k == 3)=false:=by simp;omega
   rcases h45 with rfl | rfl
   all_goals
    clear hkz h2 h3 hk0 hk5 hz0 hz9 hb2 hb3 f2 e2
    go_wp2_with (go_at_call 111;(with_reducible refine (ITC.out).mono ?_);rintro e w3 ⟨cs,x,ok,r',rfl,hnode,hp3,hg3,hl3,hlt3,hf3,hv3⟩;go_loud ((obtain ⟨a1,l1,c1,a2,l2,c2,hcs⟩:=hnode.slices);subst hcs;(have hr3:=keepG hg3 (by omega) HR.out);(have f3:=free_six hr3);(have e3:=six_of hr3);(have HR3:=Hh hr3);(have HN3:=Hh (Ai hnode (Ai hp3 (Ai (gtrans HP.out.2 hg3) (Ai hl3 (Ai hf3 hv3))))));clear hr3 hnode hp3 hg3 hl3 hlt3 hf3 hv3))
    refine ret_node (v:=.bool ok) HR3.out Tryz.results72 rfl rfl rfl ?_
    exact mnpost_on HN3.out.1 hz1 HN3.out.2.1 HN3.out.2.2.1 hgw (by have:=HN3.out.2.2.2.1;omega) (fun h=>by have:=HN3.out.2.2.2.1;omega) HN3.out.2.2.2.2.1 HN3.out.2.2.2.2.2
  have h01:k=0∨k=1:=by omega
  have HV:Hid (∀y t,MIr (d+1) r y t→(.mk k (z == 1) 0 ⟨#[]⟩ [] [])=y∧r1=t):=Hh fun y t hy=>by
   obtain ⟨-,e1,e2,e3⟩:=mrhead HI.out hy
   rcases mcases hy.1 hy.2.1 with ⟨c1,c2⟩ | ⟨c1,c2⟩ | ⟨c1,-⟩ | ⟨c1,-⟩ | ⟨c1,-⟩ | ⟨c1,-⟩
   ·have hpz:pPay y=0:=by unfold pPay;rw [c1];rfl
    rw [e1,e2,c1,hpz,e3]
    refine ⟨c2.symm,?_⟩
    unfold bodyM;rw [c1];rfl
   ·rw [e1,e2,c1,e3]
    refine ⟨?_,by unfold bodyM;rw [c1];rfl⟩
    rw [show (pPay y == 1)=decide (pPay y=1) from rfl]
    exact c2.symm
   all_goals omega
  have hb2:(k == 2)=false:=by simp;omega
  have hb3:(k == 3)=false:=by simp;omega
  have hb4:(k == 4)=false:=by simp;omega
  have hb5:(k == 5)=false:=by simp;omega
  obtain ⟨b,hb⟩:∃b,(z == 1)=b:=⟨_,rfl⟩
  rw [hb] at HV
  clear h2 h3 h45 h01 hkz
  go_wp2
  refine ret_node (v:=.bool true) HR.out Tryz.results72 rfl rfl rfl ?_
  exact mnleaf_res k b 0 ⟨#[]⟩ true HP.out.1 HP.out.2 hgw hl1 (fun _=>hlt1) (by decide) (by decide) (fun y t hy=>⟨rfl,HV.out y t hy⟩)
theorem mpnode_any:∀d,d≤21→MpNodeAt d
 | 0,_=>mpnode_zero
 | d+1,h=>mpnode_step d (by omega) (mpnode_any d (by omega))
end Go.Proofs.YtdppdonaojdceaaGreatDoor
namespace Go.Proofs.YtdppdonaojdceaaGreatDoor
open Go Go.ChangeShapes Go.WideShapes Go.ChangeAt Go.RowKit
theorem mpdec_none {s:ByteArray} {w wx:World} (hb:Below w.heap.size w wx) (hV:MDecIs s nd0 4) :
 MDecPost s w (.returned (.tuple #[.agg #[.int .i64 0,.bool false,.int .i64 0,.string ⟨#[]⟩,.slice none 0 0,.slice none 0 0],.int .i64 4])) (set6 wx w.heap.size (.int .i64 0) (.bool false) (.int .i64 0) (.string ⟨#[]⟩) (.slice none 0 0) (.slice none 0 0)):=by
 have hgs:=grown_set6 wx w.heap.size (.int .i64 0) (.bool false) (.int .i64 0) (.string ⟨#[]⟩) (.slice none 0 0) (.slice none 0 0)
 exact ⟨[.int .i64 0,.bool false,.int .i64 0,.string ⟨#[]⟩,.slice none 0 0,.slice none 0 0],nd0,4,rfl,(node_leaf _ _ 0 false 0 ⟨#[]⟩ (by decide)).deeper (by decide),hb.grown hgs hb.size (fun k hk=>by cases hk;exact Lr _),hV⟩
theorem mpdec_any (s:ByteArray) (w:World) (hT:Ptab w):Calls Tryz.prog 45 #[.string s] w (MDecPost s w):=by
 have b0:=(Br w.heap.size w).alloc (o:=.cells #[.int .i64 0,.bool false,.int .i64 0,.string ⟨#[]⟩,.slice none 0 0,.slice none 0 0] 30) (Lr _)
 have hr0:=Hn w (.cells #[.int .i64 0,.bool false,.int .i64 0,.string ⟨#[]⟩,.slice none 0 0,.slice none 0 0] 30)
 have hz0:w.heap.size<(w.alloc (.cells #[.int .i64 0,.bool false,.int .i64 0,.string ⟨#[]⟩,.slice none 0 0,.slice none 0 0] 30)).heap.size:=by simp
 by_cases hl:65536<s.size
 ·have hl':(65536:Int)<(s.size:Int):=by omega
  have HV:Hid (MDecIs s nd0 4):=Hh (.inr ⟨rfl,rfl,fun y _ _ h=>absurd h (by omega)⟩)
  have B0:=Hh b0
  have HR:=Hh hr0
  have f1:=free_six hr0
  have c1:=six_of hr0
  clear hl b0 hr0
  go_enter Tryz.func45,Tryz.ntmps45
  go_upto_region 1 with fail
  generalize w.alloc (.cells #[.int .i64 0,.bool false,.int .i64 0,.string ⟨#[]⟩,.slice none 0 0,.slice none 0 0] 30)=w0 at B0 HR f1 c1 ⊢
  go_wp2
  refine ret_node (v:=.int .i64 4) HR.out Tryz.results45 rfl rfl rfl ?_
  exact mpdec_none B0.out HV.out
 ·have hl':¬ (65536:Int)<(s.size:Int):=by omega
  have hsl:s.data.toList.length=s.size:=by rw [Array.length_toList];rfl
  have HT:=Hh hT
  have HL:=Hh hl
  clear hT hl
  go_enter Tryz.func45,Tryz.ntmps45
  go_upto_region 1 with fail
  obtain ⟨w0,hw0⟩:∃W,W=w.alloc (.cells #[.int .i64 0,.bool false,.int .i64 0,.string ⟨#[]⟩,.slice none 0 0,.slice none 0 0] 30):=⟨_,rfl⟩
  rw [←hw0] at b0 hr0 hz0
  rw [←hw0]
  clear hw0
  have HR:=Hh hr0
  have B0:=Hh b0
  clear hr0 b0
  have hb3:=(Br w0.heap.size w0).alloc (o:=.cells #[.string s] 102) (Lr _)
  have hg3:=Hn w0 (.cells #[.string s] 102)
  have hB3:=B0.out.trans (hb3.mono B0.out.size)
  go_upto_region 4 with fail
  generalize w0.alloc _=w3 at hb3 hg3 hB3 ⊢
  have hp3:PrM w.heap.size w3 w0.heap.size s.data.toList:=⟨by rw [bC_of];exact hg3,HT.out.s.below hB3,B0.out.size⟩
  have hgw:w.heap.size≤w0.heap.size:=B0.out.size
  have hr3:=(hb3.block _ (lt_of_block HR.out)).trans HR.out
  have hg0w:w0.heap.size≤w3.heap.size:=hb3.size
  have ND':Hid (Calls Tryz.prog 72 #[.pointer (some ⟨w0.heap.size,0,none⟩),.int .i64 8] w3 (MnPost (MIr 8 s.data.toList) 8 w0.heap.size w.heap.size s.data.toList w3)):=Hh (mpnode_any 8 (by decide) w0.heap.size w.heap.size s.data.toList w3 hp3 (by have:=HL.out;omega))
  have HB3:=Hh hB3
  have HR3:=Hh hr3
  have hgr:w.heap.size ≠ w0.heap.size:=by have:=lt_of_block HR.out;omega
  generalize hgx:w0.heap.size=gx at ND' hgw hgr ⊢
  clear hgx hp3 hb3 hg3 hB3 hr3 B0 HR
  go_upto_region 5 with ((with_reducible refine (ND'.out).mono ?_);rintro e5 w5 ⟨cs,x,ok,r',rfl,hnode,hp5,hg5,hl5,hlt5,hf5,hv5⟩;go_loud ((obtain ⟨a1,l1,c1,a2,l2,c2,hcs⟩:=hnode.slices);subst hcs))
  have hv8:s.size≤65536→∀y,validN 8 y=true→numsB 8 y=true→writeP 8 y=s.data.toList→ok=true∧x=y:=fun _ y h1 h2 h3=>by
   have:=hv5 y [] ⟨h1,h2,by rw [List.append_nil,h3]⟩
   exact ⟨this.1,this.2.1⟩
  have hB5:Below w.heap.size w w5:=HB3.out.grown hg5 HB3.out.size (fun k hk=>by cases hk;exact hgw)
  have hr5:=keepG hg5 hgr HR3.out
  have b6:=(Br w5.heap.size w5).alloc (o:=.cells #[.int .i64 x.kind,.bool x.bool,.int .i64 x.num,.string x.text,.slice a1 l1 c1,.slice a2 l2 c2] 30) (Lr _)
  have hn6:=Hn w5 (.cells #[.int .i64 x.kind,.bool x.bool,.int .i64 x.num,.string x.text,.slice a1 l1 c1,.slice a2 l2 c2] 30)
  have hnd6:=hnode.same fun b hb=>b6.block b hb.2
  have hB6:=hB5.trans (b6.mono hB5.size)
  have hr6:=(b6.block _ (lt_of_block hr5)).trans hr5
  have hz6:w5.heap.size<(w5.alloc (.cells #[.int .i64 x.kind,.bool x.bool,.int .i64 x.num,.string x.text,.slice a1 l1 c1,.slice a2 l2 c2] 30)).heap.size:=by simp
  have hne5:w.heap.size ≠ w5.heap.size:=by have:=lt_of_block hr5;omega
  obtain ⟨w6,hw6⟩:∃W,W=w5.alloc (.cells #[.int .i64 x.kind,.bool x.bool,.int .i64 x.num,.string x.text,.slice a1 l1 c1,.slice a2 l2 c2] 30):=⟨_,rfl⟩
  rw [←hw6] at b6 hn6 hnd6 hB6 hr6 hz6
  rw [←hw6]
  have hz3:w.heap.size≤w3.heap.size:=HB3.out.size
  have HV8:=Hh hv8
  have HB6:=Hh hB6
  have HN6:=Hh hnd6
  have HR6:=Hh hr6
  have HZ6:=Hh (Ai hz6 hz3)
  have hnum8:numsB 8 x=true:=mnumsB_down (by decide) hf5.2
  have hlow9:lowV 9 x:=hf5.1
  have EN:=Hh (mpenc_any _ x w6 hnd6 (fun b hb=>Nat.lt_trans hb.2 hz6) hlow9 (fun _=>hnum8) (HT.out.below hB6))
  have HN8:=Hh hnum8
  clear hw6 hv8 hv5 hB5 hr5 b6 hnd6 hB6 hr6 hz6 hnode hp5 hg5 hf5 hl5 hlt5 HB3 HR3 ND' hnum8 hlow9 HT
  have cn:=six_of hn6
  have HN66:=Hh hn6
  clear hn6
  go_upto_region 6 with ((with_reducible refine (EN.out).mono ?_);rintro e7 w7 ⟨rfl,hb7⟩)
  have hB7:=HB6.out.trans (hb7.mono HB6.out.size)
  have hr7:=(hb7.block _ (lt_of_block HR6.out)).trans HR6.out
  have hn7:=(hb7.block _ (lt_of_block HN66.out)).trans HN66.out
  have hnd7:=HN6.out.same fun b hb=>hb7.block b (Nat.lt_trans hb.2 HZ6.out.1)
  have HB7:=Hh hB7
  have HR7:=Hh hr7
  have HND7:=Hh (Ai hnd7 hb7.size)
  clear hB7 hr7 hnd7 hb7 EN HN66 cn
  cases ok with
  | false=>
   have HV:Hid (MDecIs s nd0 4):=Hh (.inr ⟨rfl,rfl,fun y h1 h2 h3 h4=>by have:=(HV8.out h3 y h1 h2 h4).1;cases this⟩)
   have f1:=free_six HR7.out
   have cz1:=six_of HR7.out
   clear hn7
   go_wp2
   refine ret_node (v:=.int .i64 4) HR7.out Tryz.results45 rfl rfl rfl ?_
   exact mpdec_none HB7.out HV.out
  | true=>
   by_cases hbad:mpE x ≠ 0∨mpS x ≠ s
   ·have HV:Hid (MDecIs s nd0 4):=Hh (.inr ⟨rfl,rfl,fun y h1 h2 h3 h4=>by
     obtain ⟨-,rfl⟩:=HV8.out h3 y h1 h2 h4
     have hlen:¬65536<(writeP 8 x).length:=by rw [h4,hsl];omega
     obtain ⟨g1,g2⟩:=mpse_good h1 hlen
     rcases hbad with h | h
     ·exact h g2
     ·apply h;rw [g1,h4,bC_of]⟩)
    clear hn7
    by_cases hE0:mpE x=0
    ·have hS0:mpS x ≠ s:=hbad.resolve_left (fun h=>h hE0)
     have hSb:((mpS x).toList == s.toList)=false:=by
      rw [Lib.toList_data,Lib.toList_data]
      exact beq_eq_false_iff_ne.2 fun h=>hS0 (by rw [←bC_of (mpS x),h,bC_of])
     have hEb:(mpE x != 0)=false:=by simpa using hE0
     clear hbad
     rw [hE0]
     have f1:=free_six HR7.out
     have cz1:=six_of HR7.out
     go_wp2
     refine ret_node (v:=.int .i64 4) HR7.out Tryz.results45 rfl rfl rfl ?_
     exact mpdec_none HB7.out HV.out
    ·have hEb:(mpE x != 0)=true:=by simpa using hE0
     clear hbad
     have f1:=free_six HR7.out
     have cz1:=six_of HR7.out
     go_wp2
     refine ret_node (v:=.int .i64 4) HR7.out Tryz.results45 rfl rfl rfl ?_
     exact mpdec_none HB7.out HV.out
   ·have hE0:mpE x=0:=Classical.byContradiction fun h=>hbad (.inl h)
    have hS0:mpS x=s:=Classical.byContradiction fun h=>hbad (.inr h)
    have HV:Hid (MDecIs s x 0):=Hh (by
     have hv:validN 8 x=true:=by
      cases q:validN 8 x with
      | true=>rfl
      | false=>rw [(mpse_bad q).2] at hE0;cases hE0
     have hlen:¬65536<(writeP 8 x).length:=fun q=>by rw [(mpse_long hv q).2] at hE0;cases hE0
     have hw:writeP 8 x=s.data.toList:=by rw [←hS0,(mpse_good hv hlen).1,bC_data]
     exact .inl ⟨rfl,hv,HN8.out,hw,by rw [hw,hsl] at hlen;omega⟩)
    clear hbad
    rw [hE0,hS0]
    have f1:=free_six HR7.out
    have cz1:=six_of HR7.out
    have cn:=six_of hn7
    go_wp2
    refine ret_node (v:=.int .i64 0) HR7.out Tryz.results45 rfl rfl rfl ?_
    have hgs:=grown_set6 w7 w.heap.size (.int .i64 x.kind) (.bool x.bool) (.int .i64 x.num) (.string x.text) (.slice a1 l1 c1) (.slice a2 l2 c2)
    refine ⟨[.int .i64 x.kind,.bool x.bool,.int .i64 x.num,.string x.text,.slice a1 l1 c1,.slice a2 l2 c2],x,0,rfl,?_,HB7.out.grown hgs HB7.out.size (fun k hk=>by cases hk;exact Lr _),HV.out⟩
    have hz:=HZ6.out
    have hz7:=HND7.out.2
    have hr:=lt_of_block HR7.out
    exact (HND7.out.1.same fun b hb=>hgs.block b (by omega) (by intro e;have:=Option.some.inj e;omega)).mono fun b hb=>⟨by omega,Ll (by omega) hgs.size⟩
end Go.Proofs.YtdppdonaojdceaaGreatDoor