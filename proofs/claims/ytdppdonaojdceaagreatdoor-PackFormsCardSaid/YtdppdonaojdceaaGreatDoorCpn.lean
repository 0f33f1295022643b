/- The program's parser: node, at any depth. -/
import Derived.Test.YtdppdonaojdceaaGreatDoorCpi
import Derived.Test.YtdppdonaojdceaaGreatDoorJawk
set_option linter.unusedVariables false
set_option linter.unusedSimpArgs false
set_option maxHeartbeats 12800000
set_option maxRecDepth 100000
namespace Go.Proofs.YtdppdonaojdceaaGreatDoor
open Go Go.Maps Go.ChangeShapes Go.WideShapes Go.ChangeAt Go.RowKit
theorem sim_of_seven {d:Nat} {y:ND} (h:validN (d+1) y=true) (h7:cMaj y=7):simZ 7 (cCnt y)=some y∧bodyC d y=[]:=by
 have hk:=kinds h
 obtain ⟨k,b,n,tt,ns,its⟩:=y
 unfold nd0 at hk
 simp only [ND.mk.injEq,ND.kind,ND.bool,ND.num,ND.text,ND.names,ND.items] at *
 rcases hk with ⟨rfl,rfl,rfl,rfl,rfl,rfl⟩ | ⟨rfl,-,rfl,rfl,rfl,rfl⟩ | ⟨rfl,rfl,-,rfl,rfl,rfl⟩ | ⟨rfl,rfl,rfl,-,rfl,rfl⟩ | ⟨rfl,rfl,rfl,rfl,rfl,-⟩ | ⟨⟨rfl,rfl,rfl,rfl,-,-⟩,hlx⟩
 ·exact ⟨rfl,rfl⟩
 ·cases b <;> exact ⟨rfl,rfl⟩
 ·exfalso
  unfold cMaj at h7
  simp [ND.kind,ND.num] at h7
  by_cases hq:n<0
  ·simp [hq] at h7
  ·simp [hq] at h7
 ·exfalso;revert h7;simp [cMaj,ND.kind]
 ·exfalso;revert h7;simp [cMaj,ND.kind]
 ·exfalso;revert h7;simp [cMaj,ND.kind]
theorem maj_of {d:Nat} {y:ND} (h:validN (d+1) y=true) (hn:numsB (d+1) y=true):cMaj y=7∨cMaj y=0∨cMaj y=1∨cMaj y=3∨cMaj y=4∨cMaj y=5:=by
 rcases cmaj_cases h hn with ⟨c1,-⟩ | ⟨c1,-⟩ | ⟨c1,-⟩ | ⟨c1,-⟩ | ⟨c1,-⟩ | ⟨c1,-⟩ <;> omega
theorem wide_wrap (z:Int):wideI (IntKind.i64.wrap z)=true:=by
 unfold wideI
 rw [Bool.and_eq_true,decide_eq_true_eq,decide_eq_true_eq,IntKind.wrap_i64]
 omega
theorem cnleaf_res {V:ND→List UInt8→Prop} {d g mb:Nat} {r r':List UInt8} {w wx:World} (k:Int) (b:Bool) (z:Int) (t:ByteArray) (ok:Bool) (hp:PrC wx g mb r') (hg:w.grownBy wx (some g)) (hgw:g<w.heap.size) (hl:r'.length≤r.length) (hl2:ok=true→r'.length<r.length) (ht:t.size≤maxLen - 2) (hz:wideI z=true)
 (hV:∀y t',V y t'→ok=true∧(.mk k b z t [] [])=y∧r'=t') :
 CnPost V d g mb r w (.returned (.tuple #[.agg #[.int .i64 k,.bool b,.int .i64 z,.string t,.slice none 0 0,.slice none 0 0],.bool ok])) (set6 wx w.heap.size (.int .i64 k) (.bool b) (.int .i64 z) (.string t) (.slice none 0 0) (.slice none 0 0)):=by
 have hgs:=grown_set6 wx w.heap.size (.int .i64 k) (.bool b) (.int .i64 z) (.string t) (.slice none 0 0) (.slice none 0 0)
 exact ⟨[.int .i64 k,.bool b,.int .i64 z,.string t,.slice none 0 0,.slice none 0 0],_,ok,r',rfl,(node_leaf _ _ k b z t ht).deeper (by omega),hp.kept hgs hgw,grown_new hg hgs (Lr _),hl,hl2,⟨⟨by simp [ND.items],fun y hy=>by simp [ND.items] at hy⟩,by unfold numsB;show (wideI z && _)=true;rw [hz];rfl⟩,hV⟩
theorem cnpost_on {V:ND→List UInt8→Prop} {d g mb:Nat} {r:List UInt8} {w wX wY:World} {x:ND} {ok:Bool} {r':List UInt8} {a1 a2:Option Addr} {l1 c1 l2 c2:Nat}
 (hn:NodeIn (d+1) (fun b=>wX.heap.size≤b∧b<wY.heap.size) wY [.int .i64 x.kind,.bool x.bool,.int .i64 x.num,.string x.text,.slice a1 l1 c1,.slice a2 l2 c2] x) (hX:w.heap.size<wX.heap.size) (hp:PrC wY g mb r') (hg:w.grownBy wY (some g)) (hgw:g<w.heap.size) (hl:r'.length≤r.length) (hl2:ok=true→r'.length<r.length) (hf:lowV (d+1) x∧numsB (d+1) x=true) (hV:∀y t,V y t→ok=true∧x=y∧r'=t) :
 CnPost V d g mb r w (.returned (.tuple #[.agg #[.int .i64 x.kind,.bool x.bool,.int .i64 x.num,.string x.text,.slice a1 l1 c1,.slice a2 l2 c2],.bool ok])) (set6 wY w.heap.size (.int .i64 x.kind) (.bool x.bool) (.int .i64 x.num) (.string x.text) (.slice a1 l1 c1) (.slice a2 l2 c2)):=by
 have hgs:=grown_set6 wY w.heap.size (.int .i64 x.kind) (.bool x.bool) (.int .i64 x.num) (.string x.text) (.slice a1 l1 c1) (.slice a2 l2 c2)
 refine ⟨[.int .i64 x.kind,.bool x.bool,.int .i64 x.num,.string x.text,.slice a1 l1 c1,.slice a2 l2 c2],x,ok,r',rfl,?_,hp.kept hgs hgw,grown_new hg hgs (Lr _),hl,hl2,hf,hV⟩
 exact (hn.same fun b hb=>hgs.block b hb.2 (by intro e;have:=Option.some.inj e;omega)).mono fun b hb=>⟨by omega,Ll hb.2 hgs.size⟩
theorem cpnode_zero:CpNodeAt 0:=by
 intro g mb r w h hr
 have hgw:=h.lt
 have bA':=(Br w.heap.size w).alloc (o:=.cells #[.int .i64 0,.bool false,.int .i64 0,.string ⟨#[]⟩,.slice none 0 0,.slice none 0 0] 30) (Lr _)
 have h0:=h.below bA'
 have hr0:=Hn w (.cells #[.int .i64 0,.bool false,.int .i64 0,.string ⟨#[]⟩,.slice none 0 0,.slice none 0 0] 30)
 have hg0:=galloc w (.cells #[.int .i64 0,.bool false,.int .i64 0,.string ⟨#[]⟩,.slice none 0 0,.slice none 0 0] 30) (some g)
 have hz0:w.heap.size<(w.alloc (.cells #[.int .i64 0,.bool false,.int .i64 0,.string ⟨#[]⟩,.slice none 0 0,.slice none 0 0] 30)).heap.size:=by simp
 have HD:=Hh (fun (wx:World) (hx:PrC wx g mb r)=>chd_any wx hx (by omega))
 clear h bA'
 go_enter Tryz.func71,Tryz.ntmps71
 go_upto_region 1 with fail
 generalize w.alloc (.cells #[.int .i64 0,.bool false,.int .i64 0,.string ⟨#[]⟩,.slice none 0 0,.slice none 0 0] 30)=w0 at h0 hr0 hg0 hz0 ⊢
 have HR:=Hh hr0
 have HG:=Hh hg0
 clear hr0 hg0
 go_upto_region 2 with ((with_reducible refine (HD.out _ h0).mono ?_);rintro e w1 ⟨m,n,ok,r1,rfl,hp1,hg1,hm,hn,hl1,hlt1,hI⟩)
 have bB:=(Br w1.heap.size w1).alloc (o:=.cells #[.int .i64 (m:Int),.int .u64 (n:Int)] 129) (Lr _)
 have hp2:=hp1.below bB
 have k2:=Hn w1 (.cells #[.int .i64 (m:Int),.int .u64 (n:Int)] 129)
 have hg2:=gtrans (gtrans HG.out hg1) (galloc w1 (.cells #[.int .i64 (m:Int),.int .u64 (n:Int)] 129) (some g))
 have hr1:=keepG hg1 (by omega) HR.out
 have hr2:=(bB.block _ (lt_of_block hr1)).trans hr1
 have hbw:w.heap.size<w1.heap.size:=Ll hz0 hg1.size
 have hbl:w1.heap.size<(w1.alloc (.cells #[.int .i64 (m:Int),.int .u64 (n:Int)] 129)).heap.size:=by simp
 generalize w1.alloc (.cells #[.int .i64 (m:Int),.int .u64 (n:Int)] 129)=w2 at hp2 k2 hg2 hr2 hbl ⊢
 obtain ⟨b,hb⟩:∃b,b=w1.heap.size:=⟨_,rfl⟩
 rw [←hb] at k2 hbw hbl ⊢
 have HP:=Hh (Ai hp2 hg2)
 have K2:=Hh k2
 have HR2:=Hh hr2
 have HI:=Hh hI
 have HL:=Hh (Ai hl1 hlt1)
 have hr1l:r1.length≤100000:=by omega
 have c2:=two_of k2
 clear hb hp2 hg2 k2 hI hl1 hlt1 hr1 hr2 hp1 hg1 bB HD HR HG h0 w1 hz0
 have f2:=free_six HR2.out
 have e2:=six_of HR2.out
 cases ok
 all_goals
  go_wp2
  refine ret_node (v:=.bool false) HR2.out Tryz.results71 rfl rfl rfl ?_
  exact cnleaf_res 0 false 0 ⟨#[]⟩ false HP.out.1 HP.out.2 hgw HL.out.1 (fun h=>by cases h) (by decide) (by decide) (fun y t hV=>by have:=hV.1;cases this)
theorem cpnode_step (d:Nat) (hd20:d≤20) (PN:CpNodeAt d):CpNodeAt (d+1):=by
 intro g mb r w h hr
 rw [show ((d+1:Nat):Int)=(d:Int)+1 by omega]
 have hd0:(0:Int)≤(d:Int):=by omega
 have hdz:(d:Int)≤20:=by omega
 have h1d:¬ (d:Int)+1<1:=by omega
 have IT:=Hh (fun (k:Int) (hk:k=4∨k=5) (n:Nat) (hn:n<18446744073709551616) (r1:List UInt8) (wx:World) (hx:PrC wx g mb r1) (h1:r1.length≤100000) (hL:LIr d k n r [] [] r1)=>cpitems_any d hd20 PN k hk n hn wx hx h1 hL)
 clear PN hd20
 have hgw:=h.lt
 have bA':=(Br w.heap.size w).alloc (o:=.cells #[.int .i64 0,.bool false,.int .i64 0,.string ⟨#[]⟩,.slice none 0 0,.slice none 0 0] 30) (Lr _)
 have h0:=h.below bA'
 have hr0:=Hn w (.cells #[.int .i64 0,.bool false,.int .i64 0,.string ⟨#[]⟩,.slice none 0 0,.slice none 0 0] 30)
 have hg0:=galloc w (.cells #[.int .i64 0,.bool false,.int .i64 0,.string ⟨#[]⟩,.slice none 0 0,.slice none 0 0] 30) (some g)
 have hz0:w.heap.size<(w.alloc (.cells #[.int .i64 0,.bool false,.int .i64 0,.string ⟨#[]⟩,.slice none 0 0,.slice none 0 0] 30)).heap.size:=by simp
 have HD:=Hh (fun (wx:World) (hx:PrC wx g mb r)=>chd_any wx hx (by omega))
 clear h bA'
 go_enter Tryz.func71,Tryz.ntmps71
 go_upto_region 1 with fail
 generalize w.alloc (.cells #[.int .i64 0,.bool false,.int .i64 0,.string ⟨#[]⟩,.slice none 0 0,.slice none 0 0] 30)=w0 at h0 hr0 hg0 hz0 ⊢
 have HR:=Hh hr0
 have HG:=Hh hg0
 clear hr0 hg0
 go_upto_region 2 with ((with_reducible refine (HD.out _ h0).mono ?_);rintro e w1 ⟨m,n,ok,r1,rfl,hp1,hg1,hm,hn,hl1,hlt1,hI⟩)
 have bB:=(Br w1.heap.size w1).alloc (o:=.cells #[.int .i64 (m:Int),.int .u64 (n:Int)] 129) (Lr _)
 have hp2:=hp1.below bB
 have k2:=Hn w1 (.cells #[.int .i64 (m:Int),.int .u64 (n:Int)] 129)
 have hg2:=gtrans (gtrans HG.out hg1) (galloc w1 (.cells #[.int .i64 (m:Int),.int .u64 (n:Int)] 129) (some g))
 have hr1:=keepG hg1 (by omega) HR.out
 have hr2:=(bB.block _ (lt_of_block hr1)).trans hr1
 have hbw:w.heap.size<w1.heap.size:=Ll hz0 hg1.size
 have hbl:w1.heap.size<(w1.alloc (.cells #[.int .i64 (m:Int),.int .u64 (n:Int)] 129)).heap.size:=by simp
 generalize w1.alloc (.cells #[.int .i64 (m:Int),.int .u64 (n:Int)] 129)=w2 at hp2 k2 hg2 hr2 hbl ⊢
 obtain ⟨b,hb⟩:∃b,b=w1.heap.size:=⟨_,rfl⟩
 rw [←hb] at k2 hbw hbl ⊢
 have HP:=Hh (Ai hp2 hg2)
 have K2:=Hh k2
 have HR2:=Hh hr2
 have HI:=Hh hI
 have HL:=Hh (Ai hl1 hlt1)
 have hr1l:r1.length≤100000:=by omega
 have c2:=two_of k2
 clear hb hp2 hg2 k2 hI hl1 hlt1 hr1 hr2 hp1 hg1 bB HD HR HG h0 w1 hz0
 cases ok with
 | false=>
  have f2:=free_six HR2.out
  have e2:=six_of HR2.out
  go_wp2
  refine ret_node (v:=.bool false) HR2.out Tryz.results71 rfl rfl rfl ?_
  exact cnleaf_res 0 false 0 ⟨#[]⟩ false HP.out.1 HP.out.2 hgw HL.out.1 (fun h=>by cases h) (by decide) (by decide) (fun y t hV=>by have:=(rhead HI.out hV).1;cases this)
 | true=>
  have hl1:=HL.out.1
  have hlt1:=HL.out.2 rfl
  by_cases h0m:m=0
  ·have hw3:=wide_wrap (n:Int)
   obtain ⟨z,hz⟩:∃z,z=IntKind.i64.wrap (n:Int):=⟨_,rfl⟩
   have hzw:IntKind.i64.wrap (n:Int)=z:=hz.symm
   rw [←hz] at hw3
   have HV:Hid (∀y t,CIr (d+1) r y t→(.mk 2 false z ⟨#[]⟩ [] [])=y∧r1=t):=Hh fun y t hy=>by
    obtain ⟨-,e1,e2,e3⟩:=rhead HI.out hy
    rcases cmaj_cases hy.1 hy.2.1 with ⟨c1,-⟩ | ⟨c1,c2,c3⟩ | ⟨c1,-⟩ | ⟨c1,-⟩ | ⟨c1,-⟩ | ⟨c1,-⟩
    ·omega
    ·have hzz:z=(cCnt y:Int):=by rw [hz,e2];exact IntWalk.i64_in _ (by omega)
     refine ⟨by rw [hzz];exact c3.symm,?_⟩
     rw [e3,c3];rfl
    all_goals omega
   have hb0:((m:Int) == 0)=true:=by simp;try omega
   have hb1:((m:Int) == 1)=false:=by simp;try omega
   have hb3:((m:Int) == 3)=false:=by simp;try omega
   have hb4:((m:Int) == 4)=false:=by simp;try omega
   have hb5:((m:Int) == 5)=false:=by simp;try omega
   have NN:=Hh (fun wx=>nnum_any z wx)
   have HW3:=Hh hw3
   clear h0m hz hw3
   go_wp2_with (go_at_call 106;(with_reducible refine (NN.out _).mono ?_);rintro e w3 ⟨rfl,hb3⟩;(have hr3:=(hb3.block _ (lt_of_block HR2.out)).trans HR2.out);(have f3:=free_six hr3);(have e3:=six_of hr3);(have HR3:=Hh hr3);(have HP3:=Hh (Ai (HP.out.1.below hb3) (gtrans HP.out.2 (grown_of_below hb3 (Lr _) _))));clear hr3)
   refine ret_node (v:=.bool true) HR3.out Tryz.results71 rfl rfl rfl ?_
   exact cnleaf_res 2 false z ⟨#[]⟩ true HP3.out.1 HP3.out.2 hgw hl1 (fun _=>hlt1) (by decide) HW3.out (fun y t hy=>⟨rfl,HV.out y t hy⟩)
  by_cases h1m:m=1
  ·have hw3:=wide_wrap (-1 - IntKind.i64.wrap (n:Int))
   obtain ⟨z1,hz1⟩:∃z,z=IntKind.i64.wrap (n:Int):=⟨_,rfl⟩
   have hzw1:IntKind.i64.wrap (n:Int)=z1:=hz1.symm
   rw [←hz1] at hw3
   obtain ⟨z,hz⟩:∃z,z=IntKind.i64.wrap (-1 - z1):=⟨_,rfl⟩
   have hzw:IntKind.i64.wrap (-1 - z1)=z:=hz.symm
   rw [←hz] at hw3
   have HV:Hid (∀y t,CIr (d+1) r y t→(.mk 2 false z ⟨#[]⟩ [] [])=y∧r1=t):=Hh fun y t hy=>by
    obtain ⟨-,e1,e2,e3⟩:=rhead HI.out hy
    rcases cmaj_cases hy.1 hy.2.1 with ⟨c1,-⟩ | ⟨c1,-⟩ | ⟨c1,c2,c3⟩ | ⟨c1,-⟩ | ⟨c1,-⟩ | ⟨c1,-⟩
    ·omega
    ·omega
    ·have hzz1:z1=(cCnt y:Int):=by rw [hz1,e2];exact IntWalk.i64_in _ (by omega)
     have hzz:z=-1 - (cCnt y:Int):=by rw [hz,hzz1];exact IntWalk.i64_in _ (by omega)
     refine ⟨by rw [hzz];exact c3.symm,?_⟩
     rw [e3,c3];rfl
    all_goals omega
   have hb0:((m:Int) == 0)=false:=by simp;try omega
   have hb1:((m:Int) == 1)=true:=by simp;try omega
   have hb3:((m:Int) == 3)=false:=by simp;try omega
   have hb4:((m:Int) == 4)=false:=by simp;try omega
   have hb5:((m:Int) == 5)=false:=by simp;try omega
   have NN:=Hh (fun wx=>nnum_any z wx)
   have HW3:=Hh hw3
   clear h0m h1m hz hz1 hw3
   go_wp2_with (go_at_call 106;(with_reducible refine (NN.out _).mono ?_);rintro e w3 ⟨rfl,hb3⟩;(have hr3:=(hb3.block _ (lt_of_block HR2.out)).trans HR2.out);(have f3:=free_six hr3);(have e3:=six_of hr3);(have HR3:=Hh hr3);(have HP3:=Hh (Ai (HP.out.1.below hb3) (gtrans HP.out.2 (grown_of_below hb3 (Lr _) _))));clear hr3)
   refine ret_node (v:=.bool true) HR3.out Tryz.results71 rfl rfl rfl ?_
   exact cnleaf_res 2 false z ⟨#[]⟩ true HP3.out.1 HP3.out.2 hgw hl1 (fun _=>hlt1) (by decide) HW3.out (fun y t hy=>⟨rfl,HV.out y t hy⟩)
  by_cases h3m:m=3
  ·skip
   have hb0:((m:Int) == 0)=false:=by simp;try omega
   have hb1:((m:Int) == 1)=false:=by simp;try omega
   have hb3:((m:Int) == 3)=true:=by simp;try omega
   have hb4:((m:Int) == 4)=false:=by simp;try omega
   have hb5:((m:Int) == 5)=false:=by simp;try omega
   by_cases hq:n≤r1.length
   ·clear h0m h1m
    have TK:=Hh (fun (wx:World) (hx:PrC wx g mb r1)=>ctake_yes n wx hx (by omega) hq)
    have hsz:(bC (r1.take n)).size≤100000:=by rw [bC_size,List.length_take];omega
    have HV:Hid (∀y t,CIr (d+1) r y t→(.mk 3 false 0 (bC (r1.take n)) [] [])=y∧r1.drop n=t):=Hh fun y t hy=>by
     obtain ⟨-,e1,e2,e3⟩:=rhead HI.out hy
     rcases cmaj_cases hy.1 hy.2.1 with ⟨c1,-⟩ | ⟨c1,-⟩ | ⟨c1,-⟩ | ⟨c1,c2,c3,c4⟩ | ⟨c1,-⟩ | ⟨c1,-⟩
     ·omega
     ·omega
     ·omega
     ·have hcc:cCnt y=y.text.size:=by rw [c3];rfl
      have hbb:bodyC d y=y.text.data.toList:=by rw [c3];rfl
      rw [hbb] at e3
      obtain ⟨-,f2,f3⟩:=text_taken e3
      rw [e2,hcc]
      exact ⟨by rw [f2];exact c3.symm,f3⟩
     all_goals omega
    have hl2:(r1.drop n).length≤r1.length:=by rw [List.length_drop];omega
    obtain ⟨sx,hsx⟩:∃sx,sx=bC (r1.take n):=⟨_,rfl⟩
    obtain ⟨rx,hrx⟩:∃rx,rx=r1.drop n:=⟨_,rfl⟩
    rw [←hsx,←hrx] at TK HV
    rw [←hsx] at hsz
    rw [←hrx] at hl2
    clear hsx hrx hq
    have NT:=Hh (fun wx=>ntext_any sx wx)
    go_upto_region 10 with fail
    refine wp_region_plan (fun w'=>w'.cell? ⟨b,1,none⟩=some (.int .u64 (n:Int))) [4] (.take 0 (.take 1 (.take 2 (.take 3 (.take 4 (.ask 5 false (.take 6 (.take 7 (.take 8 (.take 9 (.ask 10 false .stop .stop))))) .stop)))))) (by kernel_rfl) (by kernel_rfl) (fun _ d _ _ _ h=>by cases d <;> exact h) c2.2 ?_
    have hpd:PrC w2.drew g mb r1:=HP.out.1.below (Br _ _).drew
    have HPD:=Hh hpd
    have HGD:Hid (w.grownBy w2.drew (some g)):=Hh (gtrans HP.out.2 (grown_of_below ((Br w2.heap.size w2).drew) (Lr _) _))
    have HRD:Hid (w2.drew.heap[w.heap.size]?=some (.cells #[.int .i64 0,.bool false,.int .i64 0,.string ⟨#[]⟩,.slice none 0 0,.slice none 0 0] 30 (0,0))):=Hh HR2.out
    clear hpd c2
    generalize w2.drew=wd at HPD HGD HRD ⊢
    refine take_any _ ?_ rfl rfl ?_ (fun K hK=>?_);rotate_left;(intro w0;go_simp;(try rfl));(go_simp;refine hK _ ?_;clear hK K)
    refine take_any _ ?_ rfl rfl ?_ (fun K hK=>?_);rotate_left;(intro w0;go_simp;(try rfl));(go_simp;refine hK _ ?_;clear hK K)
    refine take_any _ ?_ rfl rfl ?_ (fun K hK=>?_);rotate_left;(intro w0;go_simp;(try rfl));(go_simp;refine hK _ ?_;clear hK K)
    refine take_any _ ?_ rfl rfl ?_ (fun K hK=>?_);rotate_left;(intro w0;go_simp;(try rfl));(go_simp;refine hK _ ?_;clear hK K)
    refine take_held _ ?_ rfl rfl (by decide) ?_ (fun K hK=>?_);rotate_left;(intro w0 hw0;go_simp;(try rfl));(go_simp;refine hK _ ?_;clear hK K)
    refine ask_late _ rfl trivial ?_;go_wp2_with (go_at_call 107;(with_reducible refine (TK.out _ HPD.out).mono ?_);rintro e w3 ⟨rfl,hp3,hg3⟩);refine Seg.mk ?_
    refine take_any _ ?_ rfl rfl ?_ (fun K hK=>?_);rotate_left;(intro w0;go_simp;(try rfl));(go_simp;refine hK _ ?_;clear hK K)
    refine take_any _ ?_ rfl rfl ?_ (fun K hK=>?_);rotate_left;(intro w0;go_simp;(try rfl));(go_simp;refine hK _ ?_;clear hK K)
    refine take_any _ ?_ rfl rfl ?_ (fun K hK=>?_);rotate_left;(intro w0;go_simp;(try rfl));(go_simp;refine hK _ ?_;clear hK K)
    refine take_any _ ?_ rfl rfl ?_ (fun K hK=>?_);rotate_left;(intro w0;go_simp;(try rfl));(go_simp;refine hK _ ?_;clear hK K)
    refine ask_last _ rfl trivial ?_
    have hr3:=keepG hg3 (by omega) HRD.out
    have HR3:=Hh hr3
    have HP3:=Hh (Ai hp3 (gtrans HGD.out hg3))
    clear hr3 hp3 hg3
    go_wp2_with (go_at_call 91;(with_reducible refine (NT.out _).mono ?_);rintro e w4 ⟨rfl,hb4⟩;(have hr4:=(hb4.block _ (lt_of_block HR3.out)).trans HR3.out);(have f4:=free_six hr4);(have e4:=six_of hr4);(have HR4:=Hh hr4);(have HP4:=Hh (Ai (HP3.out.1.below hb4) (gtrans HP3.out.2 (grown_of_below hb4 (Lr _) _))));clear hr4)
    refine ret_node (v:=.bool true) HR4.out Tryz.results71 rfl rfl rfl ?_
    exact cnleaf_res 3 false 0 sx true HP4.out.1 HP4.out.2 hgw (by omega) (fun _=>by omega) (by unfold maxLen;omega) (by decide) (fun y t hy=>⟨rfl,HV.out y t hy⟩)
   ·clear h0m h1m
    have TK:=Hh (fun (wx:World) (hx:PrC wx g mb r1)=>ctake_no n wx hx (by omega) hq)
    have HV:Hid (∀y t,¬CIr (d+1) r y t):=Hh fun y t hy=>by
     obtain ⟨-,e1,e2,e3⟩:=rhead HI.out hy
     rcases cmaj_cases hy.1 hy.2.1 with ⟨c1,-⟩ | ⟨c1,-⟩ | ⟨c1,-⟩ | ⟨c1,c2,c3,c4⟩ | ⟨c1,-⟩ | ⟨c1,-⟩
     ·omega
     ·omega
     ·omega
     ·have hcc:cCnt y=y.text.size:=by rw [c3];rfl
      have hbb:bodyC d y=y.text.data.toList:=by rw [c3];rfl
      rw [hbb] at e3
      obtain ⟨f1,-,-⟩:=text_taken e3
      omega
     all_goals omega
    clear hq
    have NT:=Hh (fun wx=>ntext_any ⟨#[]⟩ wx)
    go_upto_region 10 with fail
    refine wp_region_plan (fun w'=>w'.cell? ⟨b,1,none⟩=some (.int .u64 (n:Int))) [4] (.take 0 (.take 1 (.take 2 (.take 3 (.take 4 (.ask 5 false (.take 6 (.take 7 (.take 8 (.take 9 (.ask 10 false .stop .stop))))) .stop)))))) (by kernel_rfl) (by kernel_rfl) (fun _ d _ _ _ h=>by cases d <;> exact h) c2.2 ?_
    have hpd:PrC w2.drew g mb r1:=HP.out.1.below (Br _ _).drew
    have HPD:=Hh hpd
    have HGD:Hid (w.grownBy w2.drew (some g)):=Hh (gtrans HP.out.2 (grown_of_below ((Br w2.heap.size w2).drew) (Lr _) _))
    have HRD:Hid (w2.drew.heap[w.heap.size]?=some (.cells #[.int .i64 0,.bool false,.int .i64 0,.string ⟨#[]⟩,.slice none 0 0,.slice none 0 0] 30 (0,0))):=Hh HR2.out
    clear hpd c2
    generalize w2.drew=wd at HPD HGD HRD ⊢
    refine take_any _ ?_ rfl rfl ?_ (fun K hK=>?_);rotate_left;(intro w0;go_simp;(try rfl));(go_simp;refine hK _ ?_;clear hK K)
    refine take_any _ ?_ rfl rfl ?_ (fun K hK=>?_);rotate_left;(intro w0;go_simp;(try rfl));(go_simp;refine hK _ ?_;clear hK K)
    refine take_any _ ?_ rfl rfl ?_ (fun K hK=>?_);rotate_left;(intro w0;go_simp;(try rfl));(go_simp;refine hK _ ?_;clear hK K)
    refine take_any _ ?_ rfl rfl ?_ (fun K hK=>?_);rotate_left;(intro w0;go_simp;(try rfl));(go_simp;refine hK _ ?_;clear hK K)
    refine take_held _ ?_ rfl rfl (by decide) ?_ (fun K hK=>?_);rotate_left;(intro w0 hw0;go_simp;(try rfl));(go_simp;refine hK _ ?_;clear hK K)
    refine ask_late _ rfl trivial ?_;go_wp2_with (go_at_call 107;(with_reducible refine (TK.out _ HPD.out).mono ?_);rintro e w3 ⟨rfl,hp3,hg3⟩);refine Seg.mk ?_
    refine take_any _ ?_ rfl rfl ?_ (fun K hK=>?_);rotate_left;(intro w0;go_simp;(try rfl));(go_simp;refine hK _ ?_;clear hK K)
    refine take_any _ ?_ rfl rfl ?_ (fun K hK=>?_);rotate_left;(intro w0;go_simp;(try rfl));(go_simp;refine hK _ ?_;clear hK K)
    refine take_any _ ?_ rfl rfl ?_ (fun K hK=>?_);rotate_left;(intro w0;go_simp;(try rfl));(go_simp;refine hK _ ?_;clear hK K)
    refine take_any _ ?_ rfl rfl ?_ (fun K hK=>?_);rotate_left;(intro w0;go_simp;(try rfl));(go_simp;refine hK _ ?_;clear hK K)
    refine ask_last _ rfl trivial ?_
    have hr3:=keepG hg3 (by omega) HRD.out
    have HR3:=Hh hr3
    have HP3:=Hh (Ai hp3 (gtrans HGD.out hg3))
    clear hr3 hp3 hg3
    go_wp2_with (go_at_call 91;(with_reducible refine (NT.out _).mono ?_);rintro e w4 ⟨rfl,hb4⟩;(have hr4:=(hb4.block _ (lt_of_block HR3.out)).trans HR3.out);(have f4:=free_six hr4);(have e4:=six_of hr4);(have HR4:=Hh hr4);(have HP4:=Hh (Ai (HP3.out.1.below hb4) (gtrans HP3.out.2 (grown_of_below hb4 (Lr _) _))));clear hr4)
    refine ret_node (v:=.bool false) HR4.out Tryz.results71 rfl rfl rfl ?_
    exact cnleaf_res 3 false 0 ⟨#[]⟩ false HP4.out.1 HP4.out.2 hgw (by omega) (fun h=>by cases h) (by decide) (by decide) (fun y t hy=>absurd hy (HV.out y t))
  by_cases h4m:m=4
  ·have hL0:LIr d 4 n r [] [] r1:=by
    have:=LIr.start (d:=d) HI.out (by omega)
    rw [show (m:Int)=4 by omega] at this
    exact this
   have ITk:=Hh (fun (wx:World) (hx:PrC wx g mb r1)=>IT.out 4 (by decide) n hn r1 wx hx hr1l hL0)
   have hz2:w.heap.size<w2.heap.size:=by omega
   have hb0:((m:Int) == 0)=false:=by simp;try omega
   have hb1:((m:Int) == 1)=false:=by simp;try omega
   have hb3:((m:Int) == 3)=false:=by simp;try omega
   have hb4:((m:Int) == 4)=true:=by simp;try omega
   have hb5:((m:Int) == 5)=false:=by simp;try omega
   clear h0m h1m h3m hL0
   go_wp2_with (go_at_call 108;(with_reducible refine (ITk.out _ HP.out.1).mono ?_);rintro e5 w5 ⟨cs,x,ok,r',rfl,hnode,hp5,hg5,hl5,hlt5,hf5,hv5⟩;go_loud ((obtain ⟨a1,l1,d1,a2,l2,d2,hcs⟩:=hnode.slices);subst hcs;(have hr9:=keepG hg5 (by omega) HR2.out);(have f9:=free_six hr9);(have c9:=six_of hr9);(have HR9:=Hh hr9);(have HN:=Hh (Ai hnode (Ai hp5 hf5)));(have HG5:=Hh (gtrans HP.out.2 hg5));(have HL5:Hid (r'.length≤r.length∧(ok=true→r'.length<r.length)):=Hh ⟨by omega,fun h=>by have:=hlt5 h;omega⟩);(have HVV:=Hh hv5);clear hr9 hnode hp5 hf5 hg5 hv5 hlt5))
   refine ret_node (v:=.bool ok) HR9.out Tryz.results71 rfl rfl rfl ?_
   exact cnpost_on HN.out.1 hz2 HN.out.2.1 HG5.out hgw HL5.out.1 HL5.out.2 HN.out.2.2 HVV.out
  by_cases h5m:m=5
  ·have hL0:LIr d 5 n r [] [] r1:=by
    have:=LIr.start (d:=d) HI.out (by omega)
    rw [show (m:Int)=5 by omega] at this
    exact this
   have ITk:=Hh (fun (wx:World) (hx:PrC wx g mb r1)=>IT.out 5 (by decide) n hn r1 wx hx hr1l hL0)
   have hz2:w.heap.size<w2.heap.size:=by omega
   have hb0:((m:Int) == 0)=false:=by simp;try omega
   have hb1:((m:Int) == 1)=false:=by simp;try omega
   have hb3:((m:Int) == 3)=false:=by simp;try omega
   have hb4:((m:Int) == 4)=false:=by simp;try omega
   have hb5:((m:Int) == 5)=true:=by simp;try omega
   clear h0m h1m h3m hL0
   go_wp2_with (go_at_call 108;(with_reducible refine (ITk.out _ HP.out.1).mono ?_);rintro e5 w5 ⟨cs,x,ok,r',rfl,hnode,hp5,hg5,hl5,hlt5,hf5,hv5⟩;go_loud ((obtain ⟨a1,l1,d1,a2,l2,d2,hcs⟩:=hnode.slices);subst hcs;(have hr9:=keepG hg5 (by omega) HR2.out);(have f9:=free_six hr9);(have c9:=six_of hr9);(have HR9:=Hh hr9);(have HN:=Hh (Ai hnode (Ai hp5 hf5)));(have HG5:=Hh (gtrans HP.out.2 hg5));(have HL5:Hid (r'.length≤r.length∧(ok=true→r'.length<r.length)):=Hh ⟨by omega,fun h=>by have:=hlt5 h;omega⟩);(have HVV:=Hh hv5);clear hr9 hnode hp5 hf5 hg5 hv5 hlt5))
   refine ret_node (v:=.bool ok) HR9.out Tryz.results71 rfl rfl rfl ?_
   exact cnpost_on HN.out.1 hz2 HN.out.2.1 HG5.out hgw HL5.out.1 HL5.out.2 HN.out.2.2 HVV.out
  have HV:Hid (∀y t,CIr (d+1) r y t→(simZ m n).isSome=true∧(.mk (((simZ m n).getD nd0).kind) (((simZ m n).getD nd0).bool) 0 ⟨#[]⟩ [] [])=y∧r1=t):=Hh fun y t hy=>by
   obtain ⟨-,e1,e2,e3⟩:=rhead HI.out hy
   have h7:cMaj y=7:=by rcases maj_of hy.1 hy.2.1 with c | c | c | c | c | c <;> omega
   obtain ⟨f1,f2⟩:=sim_of_seven hy.1 h7
   rw [f2] at e3
   rw [e1,e2,h7,f1]
   refine ⟨rfl,?_,e3⟩
   unfold simZ at f1
   split at f1
   ·cases f1;rfl
   ·split at f1
    ·cases f1;rfl
    ·split at f1
     ·cases f1;rfl
     ·cases f1
  have LK:=Hh (fun (wx:World) (hx:Heads wx mb)=>hx.look hm hn)
  obtain ⟨zk,hzk⟩:∃k,k=(((simZ m n).getD nd0).kind):=⟨_,rfl⟩
  obtain ⟨zb,hzb⟩:∃k,k=(((simZ m n).getD nd0).bool):=⟨_,rfl⟩
  obtain ⟨zo,hzo⟩:∃k,k=(simZ m n).isSome:=⟨_,rfl⟩
  simp only [leafV] at LK
  rw [←hzk,←hzb,←hzo] at LK HV
  clear hzk hzb hzo
  have hb0:((m:Int) == 0)=false:=by simp;try omega
  have hb1:((m:Int) == 1)=false:=by simp;try omega
  have hb3:((m:Int) == 3)=false:=by simp;try omega
  have hb4:((m:Int) == 4)=false:=by simp;try omega
  have hb5:((m:Int) == 5)=false:=by simp;try omega
  clear h0m h1m h3m h4m h5m
  have HHD:=HP.out.1.2.1
  have cg:=cell_blk HP.out.1.1 (j:=1) rfl
  go_upto_region 16 with fail
  refine wp_region_plan (fun w'=>(w'.cell? ⟨g,1,none⟩=some (.map (some mb))∧(w'.cell? ⟨b,0,none⟩=some (.int .i64 (m:Int))∧w'.cell? ⟨b,1,none⟩=some (.int .u64 (n:Int))))∧Heads w' mb) [3,4,5] (.take 0 (.take 1 (.take 2 (.take 3 (.take 4 (.take 5 (Plan.join true (.ask 6 false (.take 7 (.take 8 (.ask 9 false .stop .stop))) (.ask 9 true (.ask 6 false (.take 7 (.take 8 .stop)) .stop) .stop)) (.ask 10 false (.ask 11 false .stop .stop) .stop)))))))) (by kernel_rfl) (by kernel_rfl) (fun _ d _ _ _ h=>by cases d <;> exact h) ⟨⟨cg,c2⟩,HHD⟩ ?_
  have hpd:PrC w2.drew g mb r1:=HP.out.1.below (Br _ _).drew
  have HPD:=Hh (Ai hpd (gtrans HP.out.2 (grown_of_below ((Br w2.heap.size w2).drew) (Lr _) _)))
  have HRD:Hid (w2.drew.heap[w.heap.size]?=some (.cells #[.int .i64 0,.bool false,.int .i64 0,.string ⟨#[]⟩,.slice none 0 0,.slice none 0 0] 30 (0,0))):=Hh HR2.out
  have hcd:(w2.drew.cell? ⟨g,1,none⟩=some (.map (some mb))∧(w2.drew.cell? ⟨b,0,none⟩=some (.int .i64 (m:Int))∧w2.drew.cell? ⟨b,1,none⟩=some (.int .u64 (n:Int)))):=⟨cg,c2⟩
  have HCD:=Hh hcd
  clear hpd cg c2 HHD hcd
  generalize w2.drew=wd at HPD HRD HCD ⊢
  refine take_any _ ?_ rfl rfl ?_ (fun K hK=>?_);rotate_left;(intro w0;go_simp;(try rfl));(go_simp;refine hK _ ?_;clear hK K)
  refine take_any _ ?_ rfl rfl ?_ (fun K hK=>?_);rotate_left;(intro w0;go_simp;(try rfl));(go_simp;refine hK _ ?_;clear hK K)
  refine take_any _ ?_ rfl rfl ?_ (fun K hK=>?_);rotate_left;(intro w0;go_simp;(try rfl));(go_simp;refine hK _ ?_;clear hK K)
  refine take_held _ ?_ rfl rfl (by decide) ?_ (fun K hK=>?_);rotate_left;(intro w0 hw0;obtain ⟨⟨s0,s1,s2⟩,sh⟩:=hw0;go_simp;(try rfl));(go_simp;refine hK _ ?_;clear hK K)
  refine take_held _ ?_ rfl rfl (by decide) ?_ (fun K hK=>?_);rotate_left;(intro w0 hw0;obtain ⟨⟨s0,s1,s2⟩,sh⟩:=hw0;go_simp;(try rfl));(go_simp;refine hK _ ?_;clear hK K)
  refine take_held _ ?_ rfl rfl (by decide) ?_ (fun K hK=>?_);rotate_left;(intro w0 hw0;have lk:=LK.out w0 hw0.2;go_simp;(try rfl));(go_simp;refine hK _ ?_;clear hK K)
  refine plan_cut [10,72,79,80] (fun vs wx=>vs=[.pointer (some ⟨wd.heap.size,0,none⟩),.tuple #[.agg #[.int .i64 zk,.bool zb,.int .i64 0,.string ⟨#[]⟩,.slice none 0 0,.slice none 0 0],.bool zo],.agg #[.int .i64 zk,.bool zb,.int .i64 0,.string ⟨#[]⟩,.slice none 0 0,.slice none 0 0],.bool zo]∧wx=wd.alloc (.cells #[.int .i64 0,.bool false,.int .i64 0,.string ⟨#[]⟩,.slice none 0 0,.slice none 0 0] 30)) ?_ ?_
  ·refine ask_late _ rfl ?_ ?_
   rotate_left
   ·go_wp2_with fail;refine Seg.mk ?_
    refine take_any _ ?_ rfl rfl ?_ (fun K hK=>?_);rotate_left;(intro w0;go_simp;(try rfl));(go_simp;refine hK _ ?_;clear hK K)
    refine take_any _ ?_ rfl rfl ?_ (fun K hK=>?_);rotate_left;(intro w0;go_simp;(try rfl));(go_simp;refine hK _ ?_;clear hK K)
    refine ask_late _ rfl trivial ?_;go_wp2_with fail;refine Seg.mk ?_
    exact plan_meet [.pointer (some ⟨wd.heap.size,0,none⟩),.tuple #[.agg #[.int .i64 zk,.bool zb,.int .i64 0,.string ⟨#[]⟩,.slice none 0 0,.slice none 0 0],.bool zo],.agg #[.int .i64 zk,.bool zb,.int .i64 0,.string ⟨#[]⟩,.slice none 0 0,.slice none 0 0],.bool zo] ⟨rfl,rfl⟩ rfl
   ·refine ask_step _ rfl trivial ?_;go_wp2_with fail
    have ba:=(Br wd.heap.size wd).alloc (o:=.cells #[.int .i64 0,.bool false,.int .i64 0,.string ⟨#[]⟩,.slice none 0 0,.slice none 0 0] 30) (Lr _)
    refine Seg.mk ⟨⟨⟨(ba.cell (p:=⟨g,1,none⟩) (cell_lt HCD.out.1)).trans HCD.out.1,(ba.cell (p:=⟨b,0,none⟩) (cell_lt HCD.out.2.1)).trans HCD.out.2.1,(ba.cell (p:=⟨b,1,none⟩) (cell_lt HCD.out.2.2)).trans HCD.out.2.2⟩,HPD.out.1.2.1.same (ba.block _ HPD.out.1.2.1.lt)⟩,?_⟩
    refine ask_late _ rfl trivial ?_;go_wp2_with fail;refine Seg.mk ?_
    refine take_any _ ?_ rfl rfl ?_ (fun K hK=>?_);rotate_left;(intro w0;go_simp;(try rfl));(go_simp;refine hK _ ?_;clear hK K)
    refine take_any _ ?_ rfl rfl ?_ (fun K hK=>?_);rotate_left;(intro w0;go_simp;(try rfl));(go_simp;refine hK _ ?_;clear hK K)
    exact plan_meet [.pointer (some ⟨wd.heap.size,0,none⟩),.tuple #[.agg #[.int .i64 zk,.bool zb,.int .i64 0,.string ⟨#[]⟩,.slice none 0 0,.slice none 0 0],.bool zo],.agg #[.int .i64 zk,.bool zb,.int .i64 0,.string ⟨#[]⟩,.slice none 0 0,.slice none 0 0],.bool zo] ⟨rfl,rfl⟩ rfl
  ·rintro vs w' ⟨rfl,hw'⟩
   simp only [puts,Act.put,List.setIfInBounds_toArray,List.set_cons_zero,List.set_cons_succ]
   have kz:=Hn wd (.cells #[.int .i64 0,.bool false,.int .i64 0,.string ⟨#[]⟩,.slice none 0 0,.slice none 0 0] 30)
   have ba:=(Br wd.heap.size wd).alloc (o:=.cells #[.int .i64 0,.bool false,.int .i64 0,.string ⟨#[]⟩,.slice none 0 0,.slice none 0 0] 30) (Lr _)
   rw [←hw'] at kz ba
   clear hw'
   have hpz:=HPD.out.1.below ba
   have hgz:=gtrans HPD.out.2 (grown_of_below ba (Lr _) _)
   have hrz:=(ba.block _ (lt_of_block HRD.out)).trans HRD.out
   have hne:w.heap.size ≠ wd.heap.size:=by have:=lt_of_block HRD.out;omega
   have hgn:g<wd.heap.size:=HPD.out.1.lt
   have kz2:=six_put kz (.int .i64 zk) (.bool zb) (.int .i64 0) (.string ⟨#[]⟩) (.slice none 0 0) (.slice none 0 0)
   have hgs:=grown_set6 w' wd.heap.size (.int .i64 zk) (.bool zb) (.int .i64 0) (.string ⟨#[]⟩) (.slice none 0 0) (.slice none 0 0)
   have hp3:=hpz.kept hgs hgn
   have hg3:=grown_new hgz hgs (Nat.le_trans HPD.out.2.size (Lr _))
   have hr3:=keepG hgs (fun e=>hne e) hrz
   have fz:=free_six kz
   have cz:=six_of kz
   obtain ⟨w3,hw3⟩:∃W,W=set6 w' wd.heap.size (.int .i64 zk) (.bool zb) (.int .i64 0) (.string ⟨#[]⟩) (.slice none 0 0) (.slice none 0 0):=⟨_,rfl⟩
   rw [←hw3] at kz2 hp3 hg3 hr3
   simp only [set6] at hw3
   have HP3:=Hh (Ai hp3 hg3)
   have HR3:=Hh hr3
   have K3:=Hh kz2
   clear kz ba hpz hgz hrz hgs hp3 hg3 hr3 kz2
   refine ask_late _ rfl trivial ?_;go_wp2_with fail;refine Seg.mk ?_
   rw [←hw3]
   clear hw3 fz cz
   refine ask_last _ rfl trivial ?_
   have c3:=six_of K3.out
   have f3:=free_six HR3.out
   have e3:=six_of HR3.out
   go_wp2
   refine ret_node (v:=.bool zo) HR3.out Tryz.results71 rfl rfl rfl ?_
   exact cnleaf_res zk zb 0 ⟨#[]⟩ zo HP3.out.1 HP3.out.2 hgw hl1 (fun _=>hlt1) (by decide) (by decide) HV.out
theorem cpnode_any:∀d,d≤20→CpNodeAt d
 | 0,_=>cpnode_zero
 | d+1,h=>cpnode_step d (by omega) (cpnode_any d (by omega))
end Go.Proofs.YtdppdonaojdceaaGreatDoor