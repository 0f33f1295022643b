/- The document's own Same: some Boolean that says whether two nodes are equal. -/
import Derived.Test.YtcklddldejejcaaGreatDoorJrhas
set_option linter.unusedVariables false
set_option linter.unusedSimpArgs false
set_option maxHeartbeats 3200000
set_option maxRecDepth 100000
namespace Go.Proofs.YtcklddldejejcaaGreatDoor
open Go Go.ChangeShapes Go.WideShapes Go.ChangeAt Go.RowKit
theorem nd_six (x y:ND):x=y↔x.kind=y.kind∧x.bool=y.bool∧x.num=y.num∧x.text=y.text∧x.names=y.names∧x.items=y.items:=by
 obtain ⟨k,b,n,t,ns,its⟩:=x
 obtain ⟨k',b',n',t',ns',its'⟩:=y
 simp [ND.kind,ND.bool,ND.num,ND.text,ND.names,ND.items]
def RSameAt (d:Nat):Prop:=∀ (d':Nat) (S S':Nat→Prop) (cs cs':List Value) (x y:ND) (w:World),NodeIn d S w cs x→NodeIn d' S' w cs' y→(∀b,S b→b<w.heap.size)→(∀b,S' b→b<w.heap.size)→Calls Tryz.prog 17 #[.agg cs.toArray,.agg cs'.toArray] w (BoolFor (x=y) w)
theorem rsame_step {d:Nat} (HV:RSameAt d):RSameAt (d+1):=by
 intro d' S S' cs cs' x y w h h' hS hS'
 obtain ⟨a3,l3,c3,a4,l4,c4,rfl⟩:=h.slices
 obtain ⟨a5,l5,c5,a6,l6,c6,rfl⟩:=h'.slices
 cases d' with
 | zero=>exact h'.elim
 | succ d'=>
 obtain ⟨vn,vi,e,ht,hns,his⟩:=h
 simp only [List.cons.injEq,and_true,true_and] at e
 obtain ⟨rfl,rfl⟩:=e
 obtain ⟨vn',vi',e,ht',hns',his'⟩:=h'
 simp only [List.cons.injEq,and_true,true_and] at e
 obtain ⟨rfl,rfl⟩:=e
 have hl3:l3=x.names.length:=by obtain ⟨_,_,e,_⟩:=id hns;cases e;rfl
 have hl4:l4=x.items.length:=by obtain ⟨_,_,e,_⟩:=id his;cases e;rfl
 have hl5:l5=y.names.length:=by obtain ⟨_,_,e,_⟩:=id hns';cases e;rfl
 have hl6:l6=y.items.length:=by obtain ⟨_,_,e,_⟩:=id his';cases e;rfl
 have hb3:l3≤9223372036854775807:=by obtain ⟨_,_,e,p1,p2,_⟩:=id hns;cases e;unfold maxLen at p2;omega
 have hb4:l4≤9223372036854775807:=by obtain ⟨_,_,e,p1,p2,_⟩:=id his;cases e;unfold maxLen at p2;omega
 have b2:Below w.heap.size w ((w.alloc (.cells #[.int .i64 x.kind,.bool x.bool,.int .i64 x.num,.string x.text,.slice a3 l3 c3,.slice a4 l4 c4] 28)).alloc (.cells #[.int .i64 y.kind,.bool y.bool,.int .i64 y.num,.string y.text,.slice a5 l5 c5,.slice a6 l6 c6] 28)):=((Br _ _).alloc (Lr _) _).alloc (by simp) _
 obtain ⟨w1,hw1⟩:∃W,W=(w.alloc (.cells #[.int .i64 x.kind,.bool x.bool,.int .i64 x.num,.string x.text,.slice a3 l3 c3,.slice a4 l4 c4] 28)).alloc (.cells #[.int .i64 y.kind,.bool y.bool,.int .i64 y.num,.string y.text,.slice a5 l5 c5,.slice a6 l6 c6] 28):=⟨_,rfl⟩
 have hz:(w.alloc (.cells #[.int .i64 x.kind,.bool x.bool,.int .i64 x.num,.string x.text,.slice a3 l3 c3,.slice a4 l4 c4] 28)).heap.size=w.heap.size+1:=by simp
 have hk1:w1.heap[w.heap.size]?=some (.cells #[.int .i64 x.kind,.bool x.bool,.int .i64 x.num,.string x.text,.slice a3 l3 c3,.slice a4 l4 c4] 28 (0,0)):=by rw [hw1];exact (Below.heap_alloc _ _ _ (by omega)).trans (Hn _ _)
 have hk2:w1.heap[w.heap.size+1]?=some (.cells #[.int .i64 y.kind,.bool y.bool,.int .i64 y.num,.string y.text,.slice a5 l5 c5,.slice a6 l6 c6] 28 (0,0)):=by rw [hw1,←hz];exact Hn _ _
 rw [←hw1] at b2
 have hs1:=lt_of_block hk2
 have hs0:w.heap.size<w1.heap.size:=by omega
 have F1:=Hh (fun (wx:World) (hb:Below w1.heap.size w1 wx)=>six_of ((hb.block _ hs0).trans hk1))
 have F2:=Hh (fun (wx:World) (hb:Below w1.heap.size w1 wx)=>six_of ((hb.block _ hs1).trans hk2))
 have ck1:=six_of hk1
 have ck2:=six_of hk2
 have B2:=Hh b2
 have HE:=Hh (nd_six x y)
 have HN:=Hh (hns.same (w':=w1) fun b hb'=>b2.block b (hS b hb'))
 have HN':=Hh (hns'.same (w':=w1) fun b hb'=>b2.block b (hS' b hb'))
 have HI:=Hh (his.same (w':=w1) (R':=NodeIn d S w1) (fun b hb'=>b2.block b (hS b hb')) fun cs y q=>q.same fun b hb'=>b2.block b (hS b hb'))
 have HI':=Hh (his'.same (w':=w1) (R':=NodeIn d' S' w1) (fun b hb'=>b2.block b (hS' b hb')) fun cs y q=>q.same fun b hb'=>b2.block b (hS' b hb'))
 have HS:=Hh (fun b hb=>Ll (hS b hb) b2.size)
 have HS':=Hh (fun b hb=>Ll (hS' b hb) b2.size)
 have HVV:=Hh HV
 have L3:=Hh hl3
 have L4:=Hh hl4
 have L5:=Hh hl5
 have L6:=Hh hl6
 have HSZ:=Hh (Ai hs0 hs1)
 have no:∀ (w2:World),Below w1.heap.size w1 w2→x ≠ y→BoolFor (x=y) w (.returned (.bool false)) w2:=fun w2 hb h=>⟨false,rfl,⟨fun e=>(by cases e),fun e=>absurd e h⟩,B2.out.trans (hb.mono B2.out.size)⟩
 have NO:=Hh no
 have yes:∀ (w2:World),Below w1.heap.size w1 w2→x=y→BoolFor (x=y) w (.returned (.bool true)) w2:=fun w2 hb h=>⟨true,rfl,⟨fun _=>h,fun _=>rfl⟩,B2.out.trans (hb.mono B2.out.size)⟩
 have YES:=Hh yes
 clear hns his hns' his' hS hS' HV hz hk1 hk2 b2 ht ht' no yes hl3 hl4 hl5 hl6 hs0 hs1
 by_cases e1:x.kind=y.kind
 ·have hq1:(x.kind != y.kind)=false:=by simp [e1]
  have hq1b:(x.kind == y.kind)=true:=by simp [e1]
  by_cases e2:x.bool=y.bool
  ·have hq2:(x.bool != y.bool)=false:=by simp [e2]
   have hq2b:(x.bool == y.bool)=true:=by simp [e2]
   by_cases e3:x.num=y.num
   ·have hq3:(x.num != y.num)=false:=by simp [e3]
    have hq3b:(x.num == y.num)=true:=by simp [e3]
    by_cases e4:x.text=y.text
    ·have hq4:(x.text.toList != y.text.toList)=false:=by simp [e4]
     have hq4b:=str_beq e4
     by_cases e5:l3=l5
     ·have hq5:((l3:Int) != (l5:Int))=false:=by simp [e5]
      have hq5b:((l3:Int) == (l5:Int))=true:=by simp [e5]
      by_cases e6:l4=l6
      ·have hq6:((l4:Int) != (l6:Int))=false:=by simp [e6]
       have hq6b:((l4:Int) == (l6:Int))=true:=by simp [e6]
       have HALL:=Hh (Ai e1 (Ai e2 (Ai e3 (Ai e4 (Ai e5 e6)))))
       clear e1 e2 e3 e4 e5 e6
       go_enter Tryz.func17,Tryz.ntmps17
       go_upto_region 1 with fail
       rw [←hw1]
       clear hw1
       go_upto_region 4 with fail
       go_loopw [5,6,56] (fun u5 u6 i wr=>∃j:Nat,i=.int .i64 j∧j≤l3∧x.names.take j=y.names.take j∧wr=w1) (fun _ _ i _=>l3 - (intOf i).toNat)
       case atStart=>exact ⟨0,rfl,Nat.zero_le _,by simp,rfl⟩
       case round=>
        obtain ⟨j,rfl,hj,heq,hwr⟩:=hrel
        replace hwr:=hwr.symm
        subst hwr
        by_cases hlt:j<l3
        ·have hlt':(j:Int)<(l3:Int):=by omega
         have hj0:(0:Int)≤(j:Int):=by omega
         have hlt2':(j:Int)<(l5:Int):=by have:=HALL.out.2.2.2.2.1;omega
         obtain ⟨s,hs⟩:∃s,x.names[j]?=some s:=⟨_,List.getElem?_eq_getElem (by have:=L3.out;omega)⟩
         obtain ⟨t,ht⟩:∃t,y.names[j]?=some t:=⟨_,List.getElem?_eq_getElem (by have:=L5.out;have:=HALL.out.2.2.2.2.1;omega)⟩
         obtain ⟨b1,o1,rfl,hb1,k1⟩:=HN.out.get hs
         obtain ⟨b2,o2,rfl,hb2,k2⟩:=HN'.out.get ht
         have HQ:=Hh heq
         have HA:=Hh hs
         have HT:=Hh ht
         clear hs ht heq
         by_cases hst:t=s
         ·have hx2:(t.toList != s.toList)=false:=by simp [hst]
          have hx3:=str_beq hst
          have HST:=Hh hst
          clear hst
          go_wp2
          go_roundw
          case rel=>exact ⟨j+1,by go_num,by omega,by rw [List.take_add_one,List.take_add_one,HA.out,HT.out,HQ.out,HST.out],(by first | exact rfl | trivial)⟩
          case measure=>simp [intOf];omega
         ·have hx2:(t.toList != s.toList)=true:=by rw [bne,str_bne hst];rfl
          have hx3:=str_bne hst
          have HST:=Hh hst
          clear hst
          go_wp2
          go_ret
          refine NO.out _ (Br _ _) fun e=>?_
          have h1:=HA.out
          rw [e,HT.out] at h1
          exact HST.out (Option.some.inj h1)
        ·have hlt':¬ (j:Int)<(l3:Int):=by omega
         have hnm:x.names=y.names:=by
          have h3:=L3.out
          have h5:=L5.out
          have h35:=HALL.out.2.2.2.2.1
          rwa [List.take_of_length_le (by omega),List.take_of_length_le (by omega)] at heq
         have HNM:=Hh hnm
         clear hnm heq hj hlt
         go_upto_region 10 with fail
         go_loopw [7,8,72] (fun u7 u8 i wr=>∃j:Nat,i=.int .i64 j∧j≤l4∧x.items.take j=y.items.take j∧Below w1.heap.size w1 wr) (fun _ _ i _=>l4 - (intOf i).toNat)
         case atStart=>exact ⟨0,rfl,Nat.zero_le _,by simp,Br _ _⟩
         case round=>
          obtain ⟨q,rfl,hq,heq,hB⟩:=hrel
          by_cases hlt:q<l4
          ·have hlt':(q:Int)<(l4:Int):=by omega
           have hq0:(0:Int)≤(q:Int):=by omega
           have h46:=HALL.out.2.2.2.2.2
           have hlt2':(q:Int)<(l6:Int):=by omega
           obtain ⟨-,-,-,b,off,xi,a7,l7,c7,a8,l8,c8,rfl,hSb,hxi,hnd,k0,k1,k2,k3,k4,k5⟩:=HI.out.at (j:=q) (by have:=L4.out;omega)
           obtain ⟨-,-,-,b',off',yi,a9,l9,c9,a0,l0,c0,rfl,hSb',hyi,hnd',m0,m1,m2,m3,m4,m5⟩:=HI'.out.at (j:=q) (by have:=L6.out;omega)
           have hbw:=HS.out b hSb
           have hbw':=HS'.out b' hSb'
           have q0:=(hB.cell (p:=⟨b,off+q * 6,none⟩) hbw).trans k0
           have q1:=(hB.cell (p:=⟨b,off+q * 6+1,none⟩) hbw).trans k1
           have q2:=(hB.cell (p:=⟨b,off+q * 6+2,none⟩) hbw).trans k2
           have q3:=(hB.cell (p:=⟨b,off+q * 6+3,none⟩) hbw).trans k3
           have q4:=(hB.cell (p:=⟨b,off+q * 6+4,none⟩) hbw).trans k4
           have q5:=(hB.cell (p:=⟨b,off+q * 6+5,none⟩) hbw).trans k5
           have bA:=hB.alloc (o:=.cells #[.int .i64 xi.kind,.bool xi.bool,.int .i64 xi.num,.string xi.text,.slice a7 l7 c7,.slice a8 l8 c8] 28) hB.size
           have cA:=six_of (Hn wr (.cells #[.int .i64 xi.kind,.bool xi.bool,.int .i64 xi.num,.string xi.text,.slice a7 l7 c7,.slice a8 l8 c8] 28))
           have cY:=(F2.out _ hB).2.2.2.2.2
           have hsz:=Ll HSZ.out.2 hB.size
           have HX:=Hh hxi
           have HY:=Hh hyi
           have HQ:=Hh heq
           have HH:=Hh (Ai hnd hnd')
           have HM:=Hh (Ai m0 (Ai m1 (Ai m2 (Ai m3 (Ai m4 m5)))))
           clear k0 k1 k2 k3 k4 k5 m0 m1 m2 m3 m4 m5 hnd hnd' hxi hyi heq hB h46 ck1 ck2
           go_upto_region 12 with fail
           generalize wr.alloc (.cells #[.int .i64 xi.kind,.bool xi.bool,.int .i64 xi.num,.string xi.text,.slice a7 l7 c7,.slice a8 l8 c8] 28)=w12 at bA cA ⊢
           have bD:=bA.drew
           have hm0:=(bD.cell (p:=⟨b',off'+q * 6,none⟩) hbw').trans HM.out.1
           have hm1:=(bD.cell (p:=⟨b',off'+q * 6+1,none⟩) hbw').trans HM.out.2.1
           have hm2:=(bD.cell (p:=⟨b',off'+q * 6+2,none⟩) hbw').trans HM.out.2.2.1
           have hm3:=(bD.cell (p:=⟨b',off'+q * 6+3,none⟩) hbw').trans HM.out.2.2.2.1
           have hm4:=(bD.cell (p:=⟨b',off'+q * 6+4,none⟩) hbw').trans HM.out.2.2.2.2.1
           have hm5:=(bD.cell (p:=⟨b',off'+q * 6+5,none⟩) hbw').trans HM.out.2.2.2.2.2
           have V:=Hh (HVV.out d' S S' _ _ xi yi w12.drew (HH.out.1.same fun b hb=>bD.block b (HS.out b hb)) (HH.out.2.same fun b hb=>bD.block b (HS'.out b hb)) (fun b hb=>Ll (HS.out b hb) bD.size) (fun b hb=>Ll (HS'.out b hb) bD.size))
           have hcy:=(F2.out _ bD).2.2.2.2.2
           have BD:=Hh bD
           clear q0 q1 q2 q3 q4 q5 cY bD bA
           refine wp_region_plan (fun w'=>(w'.cell? ⟨wr.heap.size,0,none⟩=some (.int .i64 xi.kind)∧w'.cell? ⟨wr.heap.size,1,none⟩=some (.bool xi.bool)∧w'.cell? ⟨wr.heap.size,2,none⟩=some (.int .i64 xi.num)∧w'.cell? ⟨wr.heap.size,3,none⟩=some (.string xi.text)∧w'.cell? ⟨wr.heap.size,4,none⟩=some (.slice a7 l7 c7)∧w'.cell? ⟨wr.heap.size,5,none⟩=some (.slice a8 l8 c8))∧w'.cell? ⟨w.heap.size+1,5,none⟩=some (.slice (some ⟨b',off',none⟩) l6 c6)∧w'.cell? ⟨b',off'+q * 6,none⟩=some (.int .i64 yi.kind)∧w'.cell? ⟨b',off'+q * 6+1,none⟩=some (.bool yi.bool)∧w'.cell? ⟨b',off'+q * 6+2,none⟩=some (.int .i64 yi.num)∧w'.cell? ⟨b',off'+q * 6+3,none⟩=some (.string yi.text)∧w'.cell? ⟨b',off'+q * 6+4,none⟩=some (.slice a9 l9 c9)∧w'.cell? ⟨b',off'+q * 6+5,none⟩=some (.slice a0 l0 c0)) [0,2,5] (.take 0 (.take 1 (.take 2 (.take 3 (.take 4 (.take 5 (.ask 6 false (.ask 7 false .stop .stop) .stop))))))) (by kernel_rfl) (by kernel_rfl) (fun _ d _ _ _ h=>by cases d <;> exact h) ⟨cA,hcy,hm0,hm1,hm2,hm3,hm4,hm5⟩ ?_
           generalize w12.drew=wd at V BD ⊢
           refine take_held _ ?_ rfl rfl (by decide) ?_ (fun K hK=>?_);rotate_left;(intro w0 hw0;obtain ⟨⟨s0,s1,s2,s3,s4,s5⟩,-⟩:=hw0;go_simp;(try rfl));(go_simp;refine hK _ ?_;clear hK K)
           refine take_any _ ?_ rfl rfl ?_ (fun K hK=>?_);rotate_left;(intro w0;go_simp;(try rfl));(go_simp;refine hK _ ?_;clear hK K)
           refine take_held _ ?_ rfl rfl (by decide) ?_ (fun K hK=>?_);rotate_left;(intro w0 hw0;obtain ⟨-,s0,-⟩:=hw0;go_simp;(try rfl));(go_simp;refine hK _ ?_;clear hK K)
           refine take_any _ ?_ rfl rfl ?_ (fun K hK=>?_);rotate_left;(intro w0;go_simp;(try rfl));(go_simp;refine hK _ ?_;clear hK K)
           refine take_any _ ?_ rfl rfl ?_ (fun K hK=>?_);rotate_left;(intro w0;go_simp;(try rfl));(go_simp;refine hK _ ?_;clear hK K)
           refine take_held _ ?_ rfl rfl (by decide) ?_ (fun K hK=>?_);rotate_left;(intro w0 hw0;obtain ⟨-,-,s0,s1,s2,s3,s4,s5⟩:=hw0;go_simp;(try rfl));(go_simp;refine hK _ ?_;clear hK K)
           refine ask_late _ rfl trivial ?_;go_wp2_with (go_at_call 17;refine (V.out).mono ?_;rintro e wn ⟨bb,rfl,hbb,hbn⟩);refine Seg.mk ?_
           have hBn:=BD.out.trans (hbn.mono BD.out.size)
           cases bb with
           | true=>
            have hxy:xi=yi:=hbb.1 rfl
            have HXY:=Hh hxy
            clear hbb hxy hbn
            refine ask_last _ rfl trivial ?_
            go_wp2
            go_roundw
            case rel=>exact ⟨q+1,by go_num,by omega,by rw [List.take_add_one,List.take_add_one,HX.out,HY.out,HQ.out,HXY.out],hBn⟩
            case measure=>simp [intOf];omega
           | false=>
            have hxy:xi ≠ yi:=fun e=>by have:=hbb.2 e;cases this
            have HXY:=Hh hxy
            clear hbb hxy hbn
            refine ask_last _ rfl trivial ?_
            go_wp2
            go_ret
            refine NO.out _ hBn fun e=>?_
            have h1:=HX.out
            rw [e,HY.out] at h1
            exact HXY.out (Option.some.inj h1).symm
          ·have hlt':¬ (q:Int)<(l4:Int):=by omega
           have hit:x.items=y.items:=by
            have h4:=L4.out
            have h6:=L6.out
            have h46:=HALL.out.2.2.2.2.2
            rwa [List.take_of_length_le (by omega),List.take_of_length_le (by omega)] at heq
           have HIT:=Hh hit
           clear hit heq
           go_wp2
           go_ret
           exact YES.out _ hB (HE.out.2 ⟨HALL.out.1,HALL.out.2.1,HALL.out.2.2.1,HALL.out.2.2.2.1,HNM.out,HIT.out⟩)
      ·have hq6:((l4:Int) != (l6:Int))=true:=by simp;omega
       have hq6b:((l4:Int) == (l6:Int))=false:=by simp;omega
       have hxy:=Hh (fun e:x=y=>e6 (by rw [L4.out,L6.out,e]))
       clear e1 e2 e3 e4 e5 e6
       go_enter Tryz.func17,Tryz.ntmps17
       go_upto_region 1 with fail
       rw [←hw1]
       clear hw1
       go_wp2
       go_ret
       exact NO.out _ (Br _ _) hxy.out
     ·have hq5:((l3:Int) != (l5:Int))=true:=by simp;omega
      have hq5b:((l3:Int) == (l5:Int))=false:=by simp;omega
      have hxy:=Hh (fun e:x=y=>e5 (by rw [L3.out,L5.out,e]))
      clear e1 e2 e3 e4 e5
      go_enter Tryz.func17,Tryz.ntmps17
      go_upto_region 1 with fail
      rw [←hw1]
      clear hw1
      go_wp2
      go_ret
      exact NO.out _ (Br _ _) hxy.out
    ·have hq4:(x.text.toList != y.text.toList)=true:=by rw [bne,str_bne e4];rfl
     have hq4b:=str_bne e4
     have hxy:=Hh (fun e:x=y=>e4 (HE.out.1 e).2.2.2.1)
     clear e1 e2 e3 e4
     go_enter Tryz.func17,Tryz.ntmps17
     go_upto_region 1 with fail
     rw [←hw1]
     clear hw1
     go_wp2
     go_ret
     exact NO.out _ (Br _ _) hxy.out
   ·have hq3:(x.num != y.num)=true:=by simp [e3]
    have hq3b:(x.num == y.num)=false:=by simp [e3]
    have hxy:=Hh (fun e:x=y=>e3 (HE.out.1 e).2.2.1)
    clear e1 e2 e3
    go_enter Tryz.func17,Tryz.ntmps17
    go_upto_region 1 with fail
    rw [←hw1]
    clear hw1
    go_wp2
    go_ret
    exact NO.out _ (Br _ _) hxy.out
  ·have hq2:(x.bool != y.bool)=true:=by simp [e2]
   have hq2b:(x.bool == y.bool)=false:=by simp [e2]
   have hxy:=Hh (fun e:x=y=>e2 (HE.out.1 e).2.1)
   clear e1 e2
   go_enter Tryz.func17,Tryz.ntmps17
   go_upto_region 1 with fail
   rw [←hw1]
   clear hw1
   go_wp2
   go_ret
   exact NO.out _ (Br _ _) hxy.out
 ·have hq1:(x.kind != y.kind)=true:=by simp [e1]
  have hq1b:(x.kind == y.kind)=false:=by simp [e1]
  have hxy:=Hh (fun e:x=y=>e1 (HE.out.1 e).1)
  clear e1
  go_enter Tryz.func17,Tryz.ntmps17
  go_upto_region 1 with fail
  rw [←hw1]
  clear hw1
  go_wp2
  go_ret
  exact NO.out _ (Br _ _) hxy.out
theorem rsame_any:∀d,RSameAt d
 | 0=>fun d' S S' cs cs' x y w h _ _ _=>h.elim
 | d+1=>rsame_step (rsame_any d)
end Go.Proofs.YtcklddldejejcaaGreatDoor