/- The document's bytes of a node: Head, Write, Encode. -/
import Derived.Test.YtcklddldejejcaaGreatDoorCw
import Derived.Test.YtcklddldejejcaaGreatDoorJrv
import Derived.BigQuiet
import Derived.Lib.Zigzag
set_option linter.unusedVariables false
set_option linter.unusedSimpArgs false
set_option maxHeartbeats 6400000
set_option maxRecDepth 100000
namespace Go.Proofs.YtcklddldejejcaaGreatDoor
open Go Go.ChangeShapes Go.WideShapes Go.ChangeAt Go.RowKit
theorem flat_take_succ {P:List (List UInt8)} {j:Nat} {p:List UInt8} (h:P[j]?=some p):(P.take (j+1)).flatten=(P.take j).flatten++p:=by
 rw [List.take_add_one,h,List.flatten_append]
 simp
theorem flat_take_le (P:List (List UInt8)) (j:Nat):(P.take j).flatten.length≤P.flatten.length:=by
 conv=>rhs;rw [←List.take_append_drop j P]
 rw [List.flatten_append,Lg]
 omega
theorem cText_bC (s:ByteArray):bC (headL 3 s.size)++s=bC (cText s):=by
 apply data_inj
 rw [ByteArray.data_append,Array.toList_append,bC_data,bC_data]
 rfl
def RCWriteAt (d:Nat):Prop:=∀ (D:Nat) (S:Nat→Prop) (cs:List Value) (x:ND) (w:World),NodeIn D S w cs x→(∀b,S b→b<w.heap.size)→validN d x=true→numsB d x=true→(writeC d x).length≤35184372088832 →
 Calls Tryz.prog 84 #[.agg cs.toArray] w fun e w'=>e=.returned (.string (bC (writeC d x)))∧Below w.heap.size w w'
theorem rcwrite_step {d:Nat} (IH:RCWriteAt d):RCWriteAt (d+1):=by
 intro D S cs x w h hS hv hn hlen
 obtain ⟨a1,l1,c1,a2,l2,c2,rfl⟩:=h.slices
 have b1:=(Br w.heap.size w).alloc (o:=.cells #[.int .i64 x.kind,.bool x.bool,.int .i64 x.num,.string x.text,.slice a1 l1 c1,.slice a2 l2 c2] 28) (Lr _)
 have hnl:=numsB_parts hn
 have hvl:=validN_parts hv
 cases D with
 | zero=>exact h.elim
 | succ D=>
 obtain ⟨vn,vi,e,ht,hns,his⟩:=h
 simp only [List.cons.injEq,and_true,true_and] at e
 obtain ⟨rfl,rfl⟩:=e
 have hk:=kinds hv
 obtain ⟨k,b,n,t,ns,its⟩:=x
 simp only [ND.kind,ND.bool,ND.num,ND.text,ND.names,ND.items,nd0,ND.mk.injEq,true_and,and_true] at hk ht hns his b1 hnl hvl ⊢
 rcases hk with ⟨rfl,rfl,rfl,rfl,rfl,rfl⟩ | ⟨rfl,rfl,rfl,rfl,rfl⟩ | ⟨rfl,rfl,rfl,rfl,rfl⟩ | ⟨rfl,rfl,rfl,rfl,rfl⟩ | ⟨rfl,rfl,rfl,rfl,rfl⟩ | ⟨⟨rfl,rfl,rfl,rfl⟩,hlen2⟩
 ·have hx:bC (writeC (d+1) (.mk 0 false 0 ⟨#[]⟩ [] []))=⟨#[246]⟩:=by rw [writeC_succ];rfl
  rw [hx]
  clear hns his hnl hvl hv hn hlen IH ht hx
  go_enter Tryz.func84,Tryz.ntmps84
  go_wp2
  go_ret
  exact ⟨rfl,b1⟩
 ·have hx:bC (writeC (d+1) (.mk 1 b 0 ⟨#[]⟩ [] []))=if b then ⟨#[245]⟩ else ⟨#[244]⟩:=by rw [writeC_succ];cases b <;> rfl
  rw [hx]
  clear hns his hnl hvl hv hn hlen IH ht hx
  cases b
  all_goals
   go_enter Tryz.func84,Tryz.ntmps84
   go_wp2
   go_ret
   exact ⟨rfl,b1⟩
 ·obtain ⟨hw,-⟩:=hnl
  unfold wideI at hw
  rw [Bool.and_eq_true,decide_eq_true_eq,decide_eq_true_eq] at hw
  have B1:=Hh b1
  by_cases hn0:n<0
  ·have hx:bC (writeC (d+1) (.mk 2 false n ⟨#[]⟩ [] []))=bC (headL 1 (-1 - n).toNat):=by
    rw [writeC_succ]
    unfold cMaj cCnt bodyC
    simp [ND.kind,ND.num,hn0]
   rw [hx]
   have RH:=Hh (fun wx=>rhead_any 1 (-1 - n).toNat wx (by decide) (by omega))
   have hnw:((-1 - n).toNat:Int)=-1 - n:=by omega
   rw [hnw,show ((1:Nat):Int)=1 from rfl] at RH
   have hw1:IntKind.u64.wrap n=18446744073709551616+n:=by rw [IntKind.wrap_u64];omega
   have hw2:bits BinOp.xor IntKind.u64 IntKind.u64.max (18446744073709551616+n)=-1 - n:=by
    have e1:18446744073709551616+n=(((18446744073709551616+n).toNat:Nat):Int):=by omega
    have e2:IntKind.u64.max=((2 ^ 64 - 1:Nat):Int):=by decide
    rw [e1,e2,bits_xor_u64_nat _ _ (by decide) (by omega),Lib.xor_ones64 _ (by omega)]
    omega
   obtain ⟨M,hM⟩:∃M,M=-1 - n:=⟨_,rfl⟩
   rw [←hM] at RH hw2
   have HMM:=Hh hM
   clear hns his hvl hv hn hlen IH ht b1 hw hx hnw hM
   go_enter Tryz.func84,Tryz.ntmps84
   go_wp2_with (go_at_call 135;(with_reducible refine (RH.out _).mono ?_);rintro e w2 ⟨rfl,hb2⟩)
   go_ret
   exact ⟨by rw [←HMM.out];rfl,B1.out.trans (hb2.mono B1.out.size)⟩
  ·have hx:bC (writeC (d+1) (.mk 2 false n ⟨#[]⟩ [] []))=bC (headL 0 n.toNat):=by
    rw [writeC_succ]
    unfold cMaj cCnt bodyC
    simp [ND.kind,ND.num,hn0]
   rw [hx]
   have RH:=Hh (fun wx=>rhead_any 0 n.toNat wx (by decide) (by omega))
   have hnw:(n.toNat:Int)=n:=by omega
   rw [hnw,show ((0:Nat):Int)=0 from rfl] at RH
   have hw1:IntKind.u64.wrap n=n:=by rw [IntKind.wrap_u64];omega
   clear hns his hvl hv hn hlen IH ht b1 hw hx hnw
   go_enter Tryz.func84,Tryz.ntmps84
   go_wp2_with (go_at_call 135;(with_reducible refine (RH.out _).mono ?_);rintro e w2 ⟨rfl,hb2⟩)
   go_ret
   exact ⟨rfl,B1.out.trans (hb2.mono B1.out.size)⟩
 ·have hs:=textOk_le hvl.2.2.1
  have hx:bC (writeC (d+1) (.mk 3 false 0 t [] []))=bC (headL 3 t.size)++t:=by
   rw [cText_bC,writeC_succ];rfl
  rw [hx]
  have RH:=Hh (fun wx=>rhead_any 3 t.size wx (by decide) (by omega))
  rw [show ((3:Nat):Int)=3 from rfl] at RH
  have hw1:IntKind.u64.wrap (t.size:Int)=(t.size:Int):=by rw [IntKind.wrap_u64];omega
  have hcat:¬9223372036854775807<(bC (headL 3 t.size)).size+t.size:=by rw [bC_size,headL_length];have:=headK_le t.size;omega
  have ck:=six_of (Hn w (.cells #[.int .i64 3,.bool false,.int .i64 0,.string t,.slice a1 l1 c1,.slice a2 l2 c2] 28))
  have hwlt:w.heap.size<(w.alloc (.cells #[.int .i64 3,.bool false,.int .i64 0,.string t,.slice a1 l1 c1,.slice a2 l2 c2] 28)).heap.size:=by simp
  clear hns his hnl hvl hv hn hlen IH ht hx
  go_enter Tryz.func84,Tryz.ntmps84
  go_upto_region 1 with fail
  generalize w.alloc (.cells #[.int .i64 3,.bool false,.int .i64 0,.string t,.slice a1 l1 c1,.slice a2 l2 c2] 28)=w1 at b1 ck hwlt ⊢
  go_upto_region 11 with fail
  refine wp_region_plan (fun w'=>w'.cell? ⟨w.heap.size,3,none⟩=some (.string t)) [1,2,6] (.take 0 (.take 1 (.take 2 (.take 5 (.take 6 (.ask 3 true (.ask 4 true (.ask 7 false (.ask 8 false .stop .stop) .stop) .stop) .stop)))))) (by kernel_rfl) (by kernel_rfl) (fun _ d _ _ _ h=>by cases d <;> exact h) ck.2.2.2.1 ?_
  have hs1:w1.drew.cell? ⟨w.heap.size,3,none⟩=some (.string t):=ck.2.2.2.1
  have hzw:w.heap.size<w1.drew.heap.size:=hwlt
  have hbd:=b1.drew
  clear ck
  generalize w1.drew=wd at hs1 hzw hbd ⊢
  refine take_any _ ?_ rfl rfl ?_ (fun K hK=>?_);rotate_left;(intro w0;go_simp;(try rfl));(go_simp;refine hK _ ?_;clear hK K)
  refine take_held _ ?_ rfl rfl (by decide) ?_ (fun K hK=>?_);rotate_left;(intro w0 hw0;skip;go_simp;(try rfl));(go_simp;refine hK _ ?_;clear hK K)
  refine take_any _ ?_ rfl rfl ?_ (fun K hK=>?_);rotate_left;(intro w0;go_simp;(try rfl));(go_simp;refine hK _ ?_;clear hK K)
  refine take_any _ ?_ rfl rfl ?_ (fun K hK=>?_);rotate_left;(intro w0;go_simp;(try rfl));(go_simp;refine hK _ ?_;clear hK K)
  refine take_held _ ?_ rfl rfl (by decide) ?_ (fun K hK=>?_);rotate_left;(intro w0 hw0;skip;go_simp;(try rfl));(go_simp;refine hK _ ?_;clear hK K)
  refine ask_step _ rfl trivial ?_;go_wp2_with fail;refine Seg.mk ⟨hs1,?_⟩
  refine ask_step _ rfl trivial ?_;go_wp2_with (go_at_call 135;(with_reducible refine (RH.out _).mono ?_);rintro e w5 ⟨rfl,hb5⟩);refine Seg.mk ⟨(hb5.cell (p:=⟨w.heap.size,3,none⟩) hzw).trans hs1,?_⟩
  have HBF:=Hh (hbd.trans (hb5.mono hbd.size))
  refine ask_late _ rfl trivial ?_;go_wp2_with fail;refine Seg.mk ?_
  refine ask_last _ rfl trivial ?_
  go_wp2
  go_ret
  exact ⟨rfl,HBF.out⟩
 ·obtain ⟨P0,hP0⟩:∃P,P=its.map (writeC d):=⟨_,rfl⟩
  have hws:writeC (d+1) (.mk 4 false 0 ⟨#[]⟩ [] its)=headL 4 its.length++P0.flatten:=by rw [hP0];rfl
  rw [hws] at hlen ⊢
  have hlenP:P0.flatten.length≤35184372088832:=by rw [Lg,headL_length] at hlen;omega
  obtain ⟨ai,ci,ei,hi1,hi2,-⟩:=id his
  have hl2:l2=its.length:=by cases ei;rfl
  subst hl2
  clear ei
  have hmost:=hvl.2.1
  have ck:=six_of (Hn w (.cells #[.int .i64 4,.bool false,.int .i64 0,.string ⟨#[]⟩,.slice a1 l1 c1,.slice a2 its.length c2] 28))
  have hwlt:w.heap.size<(w.alloc (.cells #[.int .i64 4,.bool false,.int .i64 0,.string ⟨#[]⟩,.slice a1 l1 c1,.slice a2 its.length c2] 28)).heap.size:=by simp
  generalize hw1:w.alloc (.cells #[.int .i64 4,.bool false,.int .i64 0,.string ⟨#[]⟩,.slice a1 l1 c1,.slice a2 its.length c2] 28)=w1 at b1 ck hwlt
  have H:=Hh his
  have HS:=Hh hS
  have HV:=Hh hvl
  have HNL:=Hh hnl
  have HP:=Hh hP0
  have HLP:=Hh hlenP
  have HI:=Hh IH
  have B1:=Hh b1
  have CK:=Hh ck
  have WL:=Hh hwlt
  have RH:=Hh (fun wx=>rhead_any 4 its.length wx (by decide) (by omega))
  rw [show ((4:Nat):Int)=4 from rfl] at RH
  have RT:=Hh (fun (n:Nat) (hn:n≤65536) wx=>rhead_any 3 n wx (by decide) (by omega))
  rw [show ((3:Nat):Int)=3 from rfl] at RT
  have hitz:IntKind.u64.wrap (its.length:Int)=(its.length:Int):=by rw [IntKind.wrap_u64];omega
  clear his hns hS hvl hnl hP0 hlenP IH b1 hwlt hlen hws hn hv ht
  go_enter Tryz.func84,Tryz.ntmps84
  go_upto_region 1 with fail
  clear hw1
  go_upto_region 15 with ((with_reducible refine (RH.out _).mono ?_);rintro e w2 ⟨rfl,hb2⟩)
  have hz2:=Ll WL.out hb2.size
  have ck2:w2.cell? ⟨w.heap.size,5,none⟩=_:=(hb2.cell (p:=⟨w.heap.size,5,none⟩) WL.out).trans CK.out.2.2.2.2.2
  have HB2:=Hh hb2
  clear ck hb2 hitz
  obtain ⟨h0,hh0⟩:∃h0,h0=headL 4 its.length:=⟨_,rfl⟩
  rw [←hh0]
  have hhl:h0.length≤9:=by rw [hh0];exact headL_cost _
  have HH0:=Hh hh0
  clear hh0
  go_upto_region 16 with fail
  clear ck2
  go_loopw [3,49] (fun v i wr=>∃ (j:Nat),i=.int .i64 j∧j≤its.length∧v=.string (bC (h0++(P0.take j).flatten))∧Below w2.heap.size w2 wr) (fun _ i _=>its.length - (intOf i).toNat)
  case atStart=>exact ⟨0,rfl,Nat.zero_le _,by simp,Br _ _⟩
  case round=>
   obtain ⟨j,rfl,hj,rfl,hB⟩:=hrel
   have hB12:=HB2.out.trans (hB.mono HB2.out.size)
   have ck:wr.cell? ⟨w.heap.size,0,none⟩=_∧wr.cell? ⟨w.heap.size,4,none⟩=_:=⟨(hB12.cell (p:=⟨w.heap.size,0,none⟩) WL.out).trans CK.out.1,(hB12.cell (p:=⟨w.heap.size,4,none⟩) WL.out).trans CK.out.2.2.2.2.1⟩
   by_cases hlt:j<its.length
   ·have hlt':(j:Int)<(its.length:Int):=by omega
    have hj0:(0:Int)≤(j:Int):=by omega
    obtain ⟨-,-,-,b,off,y,a3,l3,c3,a4,l4,c4,rfl,hSb,hx,hnd,k0,k1,k2,k3,k4,k5⟩:=H.out.at hlt
    have hb1w:=B1.out.trans (hB12.mono B1.out.size)
    have hbw:=HS.out b hSb
    have q0:=(hb1w.cell (p:=⟨b,off+j * 6,none⟩) hbw).trans k0
    have q1:=(hb1w.cell (p:=⟨b,off+j * 6+1,none⟩) hbw).trans k1
    have q2:=(hb1w.cell (p:=⟨b,off+j * 6+2,none⟩) hbw).trans k2
    have q3:=(hb1w.cell (p:=⟨b,off+j * 6+3,none⟩) hbw).trans k3
    have q4:=(hb1w.cell (p:=⟨b,off+j * 6+4,none⟩) hbw).trans k4
    have q5:=(hb1w.cell (p:=⟨b,off+j * 6+5,none⟩) hbw).trans k5
    clear k0 k1 k2 k3 k4 k5
    have hyv:=HV.out.1 y (List.mem_of_getElem? hx)
    have hyn:=HNL.out.2 y (List.mem_of_getElem? hx)
    have hPj:P0[j]?=some (writeC d y):=by rw [HP.out,List.getElem?_map,hx];rfl
    obtain ⟨Q,hQ⟩:∃Q,Q=(P0.take j).flatten:=⟨_,rfl⟩
    have hnx:=flat_take_succ hPj
    have hat:=flat_take_le P0 (j+1)
    rw [hnx,Lg] at hat
    rw [←hQ] at hnx hat ⊢
    have hQl:Q.length≤35184372088832:=by have:=HLP.out;omega
    have hyl:(writeC d y).length≤35184372088832:=by have:=HLP.out;omega
    have WR:=Hh (fun (wx:World) (hb:Below w.heap.size w wx)=>HI.out D S _ y wx (hnd.same fun b hb'=>hb.block b (HS.out b hb')) (fun b hb'=>Ll (HS.out b hb') hb.size) hyv hyn hyl)
    have bA:=hb1w.alloc (o:=.cells #[.int .i64 y.kind,.bool y.bool,.int .i64 y.num,.string y.text,.slice a3 l3 c3,.slice a4 l4 c4] 28) hb1w.size
    have cA:=six_of (Hn wr (.cells #[.int .i64 y.kind,.bool y.bool,.int .i64 y.num,.string y.text,.slice a3 l3 c3,.slice a4 l4 c4] 28))
    have hzA:wr.heap.size<(wr.alloc (.cells #[.int .i64 y.kind,.bool y.bool,.int .i64 y.num,.string y.text,.slice a3 l3 c3,.slice a4 l4 c4] 28)).heap.size:=by simp
    have b2A:=hB.alloc (o:=.cells #[.int .i64 y.kind,.bool y.bool,.int .i64 y.num,.string y.text,.slice a3 l3 c3,.slice a4 l4 c4] 28) hB.size
    have hwz:w.heap.size<wr.heap.size:=Ll hz2 hB.size
    obtain ⟨Y,hY⟩:∃Y,Y=writeC d y:=⟨_,rfl⟩
    rw [←hY] at hyl hnx WR
    have HNX:=Hh hnx
    have HB:=Hh hB
    clear hPj hat hnx hx hnd hyv hyn hY hB hB12 hb1w hQ
    go_upto_region 18 with fail
    generalize wr.alloc (.cells #[.int .i64 y.kind,.bool y.bool,.int .i64 y.num,.string y.text,.slice a3 l3 c3,.slice a4 l4 c4] 28)=wa at bA b2A cA hzA ⊢
    have BA:=Hh (Ai bA b2A)
    have CA:=Hh (fun wx (hb:Below wa.heap.size wa wx)=>(show wx.cell? ⟨wr.heap.size,0,none⟩=some (.int .i64 y.kind)∧wx.cell? ⟨wr.heap.size,1,none⟩=some (.bool y.bool)∧wx.cell? ⟨wr.heap.size,2,none⟩=some (.int .i64 y.num)∧wx.cell? ⟨wr.heap.size,3,none⟩=some (.string y.text)∧wx.cell? ⟨wr.heap.size,4,none⟩=some (.slice a3 l3 c3)∧wx.cell? ⟨wr.heap.size,5,none⟩=some (.slice a4 l4 c4) from ⟨(hb.cell (p:=⟨wr.heap.size,0,none⟩) hzA).trans cA.1,(hb.cell (p:=⟨wr.heap.size,1,none⟩) hzA).trans cA.2.1,(hb.cell (p:=⟨wr.heap.size,2,none⟩) hzA).trans cA.2.2.1,(hb.cell (p:=⟨wr.heap.size,3,none⟩) hzA).trans cA.2.2.2.1,(hb.cell (p:=⟨wr.heap.size,4,none⟩) hzA).trans cA.2.2.2.2.1,(hb.cell (p:=⟨wr.heap.size,5,none⟩) hzA).trans cA.2.2.2.2.2⟩))
    have cx:wa.cell? ⟨w.heap.size,0,none⟩=some (.int .i64 4)∧wa.cell? ⟨w.heap.size,4,none⟩=some (.slice a1 l1 c1):=⟨(b2A.cell (p:=⟨w.heap.size,0,none⟩) hz2).trans ((HB2.out.cell (p:=⟨w.heap.size,0,none⟩) WL.out).trans CK.out.1),(b2A.cell (p:=⟨w.heap.size,4,none⟩) hz2).trans ((HB2.out.cell (p:=⟨w.heap.size,4,none⟩) WL.out).trans CK.out.2.2.2.2.1)⟩
    clear bA b2A ck cA
    have hcat1:¬9223372036854775807<(bC (h0++Q)).size+(bC Y).size:=by rw [bC_size,bC_size,Lg];omega
    have ca:=CA.out _ (Br _ _)
    go_wp2_with (go_at_call 84;(with_reducible refine (WR.out _ BA.out.1).mono ?_);rintro e wn ⟨rfl,hbn⟩)
    go_roundw
    case rel=>
     refine ⟨j+1,by go_num,by omega,?_,BA.out.2.trans (hbn.mono BA.out.2.size)⟩
     rw [HNX.out]
     simp only [bC_app,List.append_assoc,cText_bC]
    case measure=>simp [intOf];omega
   ·have hlt':¬ (j:Int)<(its.length:Int):=by omega
    have hPl:P0.length≤its.length:=by rw [HP.out];simp [List.length_zipWith];try omega
    rw [List.take_of_length_le (by omega)]
    clear hPl
    go_wp2
    go_ret
    exact ⟨by rw [←HH0.out];rfl,B1.out.trans (hB12.mono B1.out.size)⟩
 ·obtain ⟨P0,hP0⟩:∃P,P=List.zipWith (fun s y=>cText s++writeC d y) ns its:=⟨_,rfl⟩
  have hws:writeC (d+1) (.mk 5 false 0 ⟨#[]⟩ ns its)=headL 5 its.length++P0.flatten:=by rw [hP0];rfl
  rw [hws] at hlen ⊢
  have hlenP:P0.flatten.length≤35184372088832:=by rw [Lg,headL_length] at hlen;omega
  obtain ⟨ai,ci,ei,hi1,hi2,-⟩:=id his
  have hl2:l2=its.length:=by cases ei;rfl
  subst hl2
  clear ei
  have hmost:=hvl.2.1
  have hl1:l1=ns.length:=by obtain ⟨_,_,e,_⟩:=id hns;cases e;rfl
  have ck:=six_of (Hn w (.cells #[.int .i64 5,.bool false,.int .i64 0,.string ⟨#[]⟩,.slice a1 l1 c1,.slice a2 its.length c2] 28))
  have hwlt:w.heap.size<(w.alloc (.cells #[.int .i64 5,.bool false,.int .i64 0,.string ⟨#[]⟩,.slice a1 l1 c1,.slice a2 its.length c2] 28)).heap.size:=by simp
  generalize hw1:w.alloc (.cells #[.int .i64 5,.bool false,.int .i64 0,.string ⟨#[]⟩,.slice a1 l1 c1,.slice a2 its.length c2] 28)=w1 at b1 ck hwlt
  have H:=Hh his
  have HN:=Hh hns
  have HL2:=Hh hlen2
  have HL1:=Hh hl1
  have HS:=Hh hS
  have HV:=Hh hvl
  have HNL:=Hh hnl
  have HP:=Hh hP0
  have HLP:=Hh hlenP
  have HI:=Hh IH
  have B1:=Hh b1
  have CK:=Hh ck
  have WL:=Hh hwlt
  have RH:=Hh (fun wx=>rhead_any 5 its.length wx (by decide) (by omega))
  rw [show ((5:Nat):Int)=5 from rfl] at RH
  have RT:=Hh (fun (n:Nat) (hn:n≤65536) wx=>rhead_any 3 n wx (by decide) (by omega))
  rw [show ((3:Nat):Int)=3 from rfl] at RT
  have hitz:IntKind.u64.wrap (its.length:Int)=(its.length:Int):=by rw [IntKind.wrap_u64];omega
  clear his hns hS hvl hnl hP0 hlenP IH b1 hwlt hlen hws hn hv ht hlen2 hl1
  go_enter Tryz.func84,Tryz.ntmps84
  go_upto_region 1 with fail
  clear hw1
  go_upto_region 15 with ((with_reducible refine (RH.out _).mono ?_);rintro e w2 ⟨rfl,hb2⟩)
  have hz2:=Ll WL.out hb2.size
  have ck2:w2.cell? ⟨w.heap.size,5,none⟩=_:=(hb2.cell (p:=⟨w.heap.size,5,none⟩) WL.out).trans CK.out.2.2.2.2.2
  have HB2:=Hh hb2
  clear ck hb2 hitz
  obtain ⟨h0,hh0⟩:∃h0,h0=headL 5 its.length:=⟨_,rfl⟩
  rw [←hh0]
  have hhl:h0.length≤9:=by rw [hh0];exact headL_cost _
  have HH0:=Hh hh0
  clear hh0
  go_upto_region 16 with fail
  clear ck2
  go_loopw [3,49] (fun v i wr=>∃ (j:Nat),i=.int .i64 j∧j≤its.length∧v=.string (bC (h0++(P0.take j).flatten))∧Below w2.heap.size w2 wr) (fun _ i _=>its.length - (intOf i).toNat)
  case atStart=>exact ⟨0,rfl,Nat.zero_le _,by simp,Br _ _⟩
  case round=>
   obtain ⟨j,rfl,hj,rfl,hB⟩:=hrel
   have hB12:=HB2.out.trans (hB.mono HB2.out.size)
   have ck:wr.cell? ⟨w.heap.size,0,none⟩=_∧wr.cell? ⟨w.heap.size,4,none⟩=_:=⟨(hB12.cell (p:=⟨w.heap.size,0,none⟩) WL.out).trans CK.out.1,(hB12.cell (p:=⟨w.heap.size,4,none⟩) WL.out).trans CK.out.2.2.2.2.1⟩
   by_cases hlt:j<its.length
   ·have hlt':(j:Int)<(its.length:Int):=by omega
    have hj0:(0:Int)≤(j:Int):=by omega
    obtain ⟨-,-,-,b,off,y,a3,l3,c3,a4,l4,c4,rfl,hSb,hx,hnd,k0,k1,k2,k3,k4,k5⟩:=H.out.at hlt
    have hb1w:=B1.out.trans (hB12.mono B1.out.size)
    have hbw:=HS.out b hSb
    have q0:=(hb1w.cell (p:=⟨b,off+j * 6,none⟩) hbw).trans k0
    have q1:=(hb1w.cell (p:=⟨b,off+j * 6+1,none⟩) hbw).trans k1
    have q2:=(hb1w.cell (p:=⟨b,off+j * 6+2,none⟩) hbw).trans k2
    have q3:=(hb1w.cell (p:=⟨b,off+j * 6+3,none⟩) hbw).trans k3
    have q4:=(hb1w.cell (p:=⟨b,off+j * 6+4,none⟩) hbw).trans k4
    have q5:=(hb1w.cell (p:=⟨b,off+j * 6+5,none⟩) hbw).trans k5
    clear k0 k1 k2 k3 k4 k5
    have hyv:=HV.out.1 y (List.mem_of_getElem? hx)
    have hyn:=HNL.out.2 y (List.mem_of_getElem? hx)
    obtain ⟨-,-,-,bn,on,rfl,hSn,hcn,hsn⟩:=HN.out.at (j:=j) (by have:=HL2.out;omega)
    have hcn':=(hb1w.cell (p:=⟨bn,on+j,none⟩) (HS.out bn hSn)).trans hcn
    have hjn:j<ns.length:=by have:=HL2.out;omega
    obtain ⟨sn,hse⟩:∃s,s=ns[j]:=⟨_,rfl⟩
    have hnj:ns[j]?=some sn:=by rw [hse];exact List.getElem?_eq_getElem hjn
    rw [←hse] at hcn'
    have hPj:P0[j]?=some (cText sn++writeC d y):=by rw [HP.out,List.getElem?_zipWith,hnj,hx]
    have hsz:=textOk_le (HV.out.2.2.2 sn (List.mem_of_getElem? hnj))
    have hlt1:(j:Int)<(l1:Int):=by have:=HL1.out;have:=HL2.out;omega
    have hSn':=HS.out bn hSn
    have hcn0:w.cell? ⟨bn,on+j,none⟩=some (.string sn):=by rw [hse];exact hcn
    clear hcn hse hnj hcn'
    obtain ⟨Q,hQ⟩:∃Q,Q=(P0.take j).flatten:=⟨_,rfl⟩
    have hnx:=flat_take_succ hPj
    have hat:=flat_take_le P0 (j+1)
    rw [hnx,Lg] at hat
    rw [←hQ] at hnx hat ⊢
    have hQl:Q.length≤35184372088832:=by have:=HLP.out;omega
    have hyl:(writeC d y).length≤35184372088832:=by rw [Lg] at hat;have:=HLP.out;omega
    have WR:=Hh (fun (wx:World) (hb:Below w.heap.size w wx)=>HI.out D S _ y wx (hnd.same fun b hb'=>hb.block b (HS.out b hb')) (fun b hb'=>Ll (HS.out b hb') hb.size) hyv hyn hyl)
    have bA:=hb1w.alloc (o:=.cells #[.int .i64 y.kind,.bool y.bool,.int .i64 y.num,.string y.text,.slice a3 l3 c3,.slice a4 l4 c4] 28) hb1w.size
    have cA:=six_of (Hn wr (.cells #[.int .i64 y.kind,.bool y.bool,.int .i64 y.num,.string y.text,.slice a3 l3 c3,.slice a4 l4 c4] 28))
    have hzA:wr.heap.size<(wr.alloc (.cells #[.int .i64 y.kind,.bool y.bool,.int .i64 y.num,.string y.text,.slice a3 l3 c3,.slice a4 l4 c4] 28)).heap.size:=by simp
    have b2A:=hB.alloc (o:=.cells #[.int .i64 y.kind,.bool y.bool,.int .i64 y.num,.string y.text,.slice a3 l3 c3,.slice a4 l4 c4] 28) hB.size
    have hwz:w.heap.size<wr.heap.size:=Ll hz2 hB.size
    obtain ⟨Y,hY⟩:∃Y,Y=writeC d y:=⟨_,rfl⟩
    rw [←hY] at hyl hnx WR
    have HNX:=Hh hnx
    have HB:=Hh hB
    clear hPj hat hnx hx hnd hyv hyn hY hB hB12 hb1w hQ
    go_upto_region 18 with fail
    generalize wr.alloc (.cells #[.int .i64 y.kind,.bool y.bool,.int .i64 y.num,.string y.text,.slice a3 l3 c3,.slice a4 l4 c4] 28)=wa at bA b2A cA hzA ⊢
    have BA:=Hh (Ai bA b2A)
    have CA:=Hh (fun wx (hb:Below wa.heap.size wa wx)=>(show wx.cell? ⟨wr.heap.size,0,none⟩=some (.int .i64 y.kind)∧wx.cell? ⟨wr.heap.size,1,none⟩=some (.bool y.bool)∧wx.cell? ⟨wr.heap.size,2,none⟩=some (.int .i64 y.num)∧wx.cell? ⟨wr.heap.size,3,none⟩=some (.string y.text)∧wx.cell? ⟨wr.heap.size,4,none⟩=some (.slice a3 l3 c3)∧wx.cell? ⟨wr.heap.size,5,none⟩=some (.slice a4 l4 c4) from ⟨(hb.cell (p:=⟨wr.heap.size,0,none⟩) hzA).trans cA.1,(hb.cell (p:=⟨wr.heap.size,1,none⟩) hzA).trans cA.2.1,(hb.cell (p:=⟨wr.heap.size,2,none⟩) hzA).trans cA.2.2.1,(hb.cell (p:=⟨wr.heap.size,3,none⟩) hzA).trans cA.2.2.2.1,(hb.cell (p:=⟨wr.heap.size,4,none⟩) hzA).trans cA.2.2.2.2.1,(hb.cell (p:=⟨wr.heap.size,5,none⟩) hzA).trans cA.2.2.2.2.2⟩))
    have cx:wa.cell? ⟨w.heap.size,0,none⟩=some (.int .i64 5)∧wa.cell? ⟨w.heap.size,4,none⟩=some (.slice (some ⟨bn,on,none⟩) l1 c1):=⟨(b2A.cell (p:=⟨w.heap.size,0,none⟩) hz2).trans ((HB2.out.cell (p:=⟨w.heap.size,0,none⟩) WL.out).trans CK.out.1),(b2A.cell (p:=⟨w.heap.size,4,none⟩) hz2).trans ((HB2.out.cell (p:=⟨w.heap.size,4,none⟩) WL.out).trans CK.out.2.2.2.2.1)⟩
    clear bA b2A ck cA
    have HCN:=Hh hcn0
    have hcnA:wa.cell? ⟨bn,on+j,none⟩=some (.string sn):=(BA.out.2.cell (p:=⟨bn,on+j,none⟩) (by have h1:=B1.out.size;have h2:=HB2.out.size;show bn<_;omega)).trans ((HB2.out.cell (p:=⟨bn,on+j,none⟩) (by have h1:=B1.out.size;show bn<_;omega)).trans ((B1.out.cell (p:=⟨bn,on+j,none⟩) hSn').trans HCN.out))
    have hsw:IntKind.u64.wrap (sn.size:Int)=(sn.size:Int):=by rw [IntKind.wrap_u64];omega
    have RTn:=Hh (RT.out sn.size hsz)
    have hcat1:¬9223372036854775807<(bC (headL 3 sn.size)).size+sn.size:=by rw [bC_size,headL_length];have:=headK_le sn.size;omega
    have hcat2:¬9223372036854775807<(bC (h0++Q)).size+(bC (headL 3 sn.size)++sn).size:=by rw [ByteArray.size_append,bC_size,bC_size,headL_length,Lg];have:=headK_le sn.size;omega
    have hcat3:¬9223372036854775807<(bC (h0++Q)++(bC (headL 3 sn.size)++sn)).size+(bC Y).size:=by rw [ByteArray.size_append,ByteArray.size_append,bC_size,bC_size,bC_size,headL_length,Lg];have:=headK_le sn.size;omega
    go_upto_region 19 with fail
    refine wp_region_plan (fun w'=>w'.cell? ⟨w.heap.size,4,none⟩=some (.slice (some ⟨bn,on,none⟩) l1 c1)∧w'.cell? ⟨bn,on+j,none⟩=some (.string sn)) [2,5,6,10,13] (.take 0 (.take 1 (.take 2 (.take 3 (.take 4 (.take 5 (.take 6 (.take 9 (.take 10 (.take 11 (.take 12 (.take 13 (.ask 7 true (.ask 8 true (.ask 14 false (.ask 15 false (.ask 16 false .stop .stop) .stop) .stop) .stop) .stop))))))))))))) (by kernel_rfl) (by kernel_rfl) (fun _ d _ _ _ h=>by cases d <;> exact h) ⟨cx.2,hcnA⟩ ?_
    have hwdb:Below wa.heap.size wa wa.drew:=(Br _ _).drew
    have hs1:wa.drew.cell? ⟨w.heap.size,4,none⟩=some (.slice (some ⟨bn,on,none⟩) l1 c1)∧wa.drew.cell? ⟨bn,on+j,none⟩=some (.string sn):=⟨cx.2,hcnA⟩
    have hzw:w.heap.size<wa.drew.heap.size∧bn<wa.drew.heap.size:=⟨cell_lt hs1.1,cell_lt hs1.2⟩
    clear cx hcnA
    generalize wa.drew=wd at hwdb hs1 hzw ⊢
    refine take_any _ ?_ rfl rfl ?_ (fun K hK=>?_);rotate_left;(intro w0;go_simp;(try rfl));(go_simp;refine hK _ ?_;clear hK K)
    refine take_any _ ?_ rfl rfl ?_ (fun K hK=>?_);rotate_left;(intro w0;go_simp;(try rfl));(go_simp;refine hK _ ?_;clear hK K)
    refine take_held _ ?_ rfl rfl (by decide) ?_ (fun K hK=>?_);rotate_left;(intro w0 hw0;obtain ⟨s1,-⟩:=hw0;go_simp;(try rfl));(go_simp;refine hK _ ?_;clear hK K)
    refine take_any _ ?_ rfl rfl ?_ (fun K hK=>?_);rotate_left;(intro w0;go_simp;(try rfl));(go_simp;refine hK _ ?_;clear hK K)
    refine take_any _ ?_ rfl rfl ?_ (fun K hK=>?_);rotate_left;(intro w0;go_simp;(try rfl));(go_simp;refine hK _ ?_;clear hK K)
    refine take_held _ ?_ rfl rfl (by decide) ?_ (fun K hK=>?_);rotate_left;(intro w0 hw0;obtain ⟨-,s1⟩:=hw0;go_simp;(try rfl));(go_simp;refine hK _ ?_;clear hK K)
    refine take_any _ ?_ rfl rfl ?_ (fun K hK=>?_);rotate_left;(intro w0;go_simp;(try rfl));(go_simp;refine hK _ ?_;clear hK K)
    refine take_any _ ?_ rfl rfl ?_ (fun K hK=>?_);rotate_left;(intro w0;go_simp;(try rfl));(go_simp;refine hK _ ?_;clear hK K)
    refine take_held _ ?_ rfl rfl (by decide) ?_ (fun K hK=>?_);rotate_left;(intro w0 hw0;obtain ⟨s1,-⟩:=hw0;go_simp;(try rfl));(go_simp;refine hK _ ?_;clear hK K)
    refine take_any _ ?_ rfl rfl ?_ (fun K hK=>?_);rotate_left;(intro w0;go_simp;(try rfl));(go_simp;refine hK _ ?_;clear hK K)
    refine take_any _ ?_ rfl rfl ?_ (fun K hK=>?_);rotate_left;(intro w0;go_simp;(try rfl));(go_simp;refine hK _ ?_;clear hK K)
    refine take_held _ ?_ rfl rfl (by decide) ?_ (fun K hK=>?_);rotate_left;(intro w0 hw0;obtain ⟨-,s1⟩:=hw0;go_simp;(try rfl));(go_simp;refine hK _ ?_;clear hK K)
    refine ask_step _ rfl trivial ?_;go_wp2_with fail;refine Seg.mk ⟨hs1,?_⟩
    refine ask_step _ rfl trivial ?_;go_wp2_with (go_at_call 135;(with_reducible refine (RTn.out _).mono ?_);rintro e w5 ⟨rfl,hb5⟩);refine Seg.mk ⟨⟨(hb5.cell (p:=⟨w.heap.size,4,none⟩) hzw.1).trans hs1.1,(hb5.cell (p:=⟨bn,on+j,none⟩) hzw.2).trans hs1.2⟩,?_⟩
    refine ask_late _ rfl trivial ?_;go_wp2_with fail;refine Seg.mk ?_
    refine ask_late _ rfl trivial ?_;go_wp2_with fail;refine Seg.mk ?_
    refine ask_last _ rfl trivial ?_
    have hb15:=hwdb.trans (hb5.mono hwdb.size)
    have ca:=CA.out _ hb15
    have hbw5:=BA.out.1.trans (hb15.mono BA.out.1.size)
    have HB15:=Hh hb15
    clear hb5 hb15 hs1 hzw hsw
    go_wp2_with (go_at_call 84;(with_reducible refine (WR.out _ hbw5).mono ?_);rintro e wn ⟨rfl,hbn'⟩;(have hbn:=HB15.out.trans (hbn'.mono HB15.out.size)))
    go_roundw
    case rel=>
     refine ⟨j+1,by go_num,by omega,?_,BA.out.2.trans (hbn.mono BA.out.2.size)⟩
     rw [HNX.out]
     simp only [bC_app,List.append_assoc,cText_bC]
    case measure=>simp [intOf];omega
   ·have hlt':¬ (j:Int)<(its.length:Int):=by omega
    have hPl:P0.length≤its.length:=by rw [HP.out];simp [List.length_zipWith];try omega
    rw [List.take_of_length_le (by omega)]
    clear hPl
    go_wp2
    go_ret
    exact ⟨by rw [←HH0.out];rfl,B1.out.trans (hB12.mono B1.out.size)⟩
theorem rcwrite_any:∀d,RCWriteAt d
 | 0=>fun D S cs x w h hS hv=>by cases hv
 | d+1=>rcwrite_step (rcwrite_any d)
def csS (x:ND):ByteArray:=if validN 8 x then (if 65536<(writeC 8 x).length then ⟨#[]⟩ else bC (writeC 8 x)) else ⟨#[]⟩
def csE (x:ND):Int:=if validN 8 x then (if 65536<(writeC 8 x).length then 3 else 0) else 1
theorem cse_bad {x:ND} (h:validN 8 x=false):csS x=⟨#[]⟩∧csE x=1:=by unfold csS csE;rw [h];exact ⟨rfl,rfl⟩
theorem cse_long {x:ND} (h:validN 8 x=true) (hl:65536<(writeC 8 x).length):csS x=⟨#[]⟩∧csE x=3:=by unfold csS csE;rw [h,if_pos rfl,if_pos rfl,if_pos hl,if_pos hl];exact ⟨rfl,rfl⟩
theorem cse_good {x:ND} (h:validN 8 x=true) (hl:¬65536<(writeC 8 x).length):csS x=bC (writeC 8 x)∧csE x=0:=by unfold csS csE;rw [h,if_pos rfl,if_pos rfl,if_neg hl,if_neg hl];exact ⟨rfl,rfl⟩
theorem cse_size (x:ND):(csS x).size≤65536:=by
 unfold csS
 split
 ·split
  ·exact Nat.zero_le _
  ·rw [bC_size];omega
 ·exact Nat.zero_le _
def CEncPost (x:ND) (w:World) (e:Ending) (w':World):Prop:=e=.returned (.tuple #[.string (csS x),.int .i64 (csE x)])∧Below w.heap.size w w'
end Go.Proofs.YtcklddldejejcaaGreatDoor