/- The document's Write and Encode of the third serialisation, at every depth. -/
import Derived.Test.YtcklddldejejcaaGreatDoorCen
import Derived.Test.YtcklddldejejcaaGreatDoorMpw
set_option linter.unusedVariables false
set_option linter.unusedSimpArgs false
set_option maxHeartbeats 6400000
set_option maxRecDepth 100000
namespace Go.Proofs.YtcklddldejejcaaGreatDoor
open Go Go.ChangeShapes Go.WideShapes Go.ChangeAt Go.RowKit
theorem headM_cost {h:Nat × Nat} {v:Nat} (hh:h.2≤8):(headP h v).length≤9:=by unfold headP;rw [List.length_cons,bigL_length];omega
def RPWriteAt (d:Nat):Prop:=∀ (D:Nat) (S:Nat→Prop) (cs:List Value) (x:ND) (w:World),NodeIn D S w cs x→(∀b,S b→b<w.heap.size)→validN d x=true→numsB d x=true→(writeP d x).length≤35184372088832 →
 Calls Tryz.prog 86 #[.agg cs.toArray] w fun e w'=>e=.returned (.string (bC (writeP d x)))∧Below w.heap.size w w'
theorem rpwrite_step {d:Nat} (IH:RPWriteAt d):RPWriteAt (d+1):=by
 intro D S cs x w h hS hv hn hlen
 obtain ⟨a1,l1,c1,a2,l2,c2,rfl⟩:=h.slices
 have b1:=(Br w.heap.size w).alloc (o:=.cells #[.int .i64 x.kind,.bool x.bool,.int .i64 x.num,.string x.text,.slice a1 l1 c1,.slice a2 l2 c2] 28) (Lr _)
 have hnl:=numsB_parts hn
 have hvl:=validN_parts hv
 cases D with
 | zero=>exact h.elim
 | succ D=>
 obtain ⟨vn,vi,e,ht,hns,his⟩:=h
 simp only [List.cons.injEq,and_true,true_and] at e
 obtain ⟨rfl,rfl⟩:=e
 have hk:=kinds hv
 obtain ⟨k,b,n,t,ns,its⟩:=x
 simp only [ND.kind,ND.bool,ND.num,ND.text,ND.names,ND.items,nd0,ND.mk.injEq,true_and,and_true] at hk ht hns his b1 hnl hvl ⊢
 rcases hk with ⟨rfl,rfl,rfl,rfl,rfl,rfl⟩ | ⟨rfl,rfl,rfl,rfl,rfl⟩ | ⟨rfl,rfl,rfl,rfl,rfl⟩ | ⟨rfl,rfl,rfl,rfl,rfl⟩ | ⟨rfl,rfl,rfl,rfl,rfl⟩ | ⟨⟨rfl,rfl,rfl,rfl⟩,hlen2⟩
 ·rw [show bC (writeP (d+1) (.mk 0 false 0 ⟨#[]⟩ [] []))=⟨#[192]⟩ from rfl]
  clear hns his hnl hvl hv hn hlen IH ht
  go_enter Tryz.func86,Tryz.ntmps86
  go_wp2
  go_ret
  exact ⟨rfl,b1⟩
 ·rw [show bC (writeP (d+1) (.mk 1 b 0 ⟨#[]⟩ [] []))=if b then ⟨#[195]⟩ else ⟨#[194]⟩ by cases b <;> rfl]
  clear hns his hnl hvl hv hn hlen IH ht
  cases b
  all_goals
   go_enter Tryz.func86,Tryz.ntmps86
   go_wp2
   go_ret
   exact ⟨rfl,b1⟩
 ·obtain ⟨hw,-⟩:=hnl
  unfold wideI at hw
  rw [Bool.and_eq_true,decide_eq_true_eq,decide_eq_true_eq] at hw
  have B1:=Hh b1
  rw [show writeP (d+1) (.mk 2 false n ⟨#[]⟩ [] [])=headP (numH n) (u64N n) by rw [writeP_succ];exact List.append_nil _]
  have RN:=Hh (fun wx=>rpnum_any n wx hw.1 hw.2)
  clear hns his hvl hv hn hlen IH ht b1 hw
  generalize bC (headP (numH n) (u64N n))=X at RN ⊢
  go_enter Tryz.func86,Tryz.ntmps86
  go_wp2_with (go_at_call 139;(with_reducible refine (RN.out _).mono ?_);rintro e w2 ⟨rfl,hb2⟩)
  go_ret
  exact ⟨rfl,B1.out.trans (hb2.mono B1.out.size)⟩
 ·have hs:=textOk_le hvl.2.2.1
  have B1:=Hh b1
  rw [show writeP (d+1) (.mk 3 false 0 t [] [])=pText t from rfl]
  have RT:=Hh (fun wx=>rptext_any t wx hs)
  clear hns his hnl hvl hv hn hlen IH ht b1 hs
  generalize bC (pText t)=X at RT ⊢
  go_enter Tryz.func86,Tryz.ntmps86
  go_wp2_with (go_at_call 140;(with_reducible refine (RT.out _).mono ?_);rintro e w2 ⟨rfl,hb2⟩)
  go_ret
  exact ⟨rfl,B1.out.trans (hb2.mono B1.out.size)⟩
 ·obtain ⟨P0,hP0⟩:∃P,P=its.map (writeP d):=⟨_,rfl⟩
  have hws:writeP (d+1) (.mk 4 false 0 ⟨#[]⟩ [] its)=headP (lstH its.length) its.length++P0.flatten:=by rw [hP0];rfl
  rw [hws] at hlen ⊢
  have hlenP:P0.flatten.length≤35184372088832:=by rw [Lg] at hlen;omega
  obtain ⟨ai,ci,ei,hi1,hi2,-⟩:=id his
  have hl2:l2=its.length:=by cases ei;rfl
  subst hl2
  clear ei
  have hmost:=hvl.2.1
  have ck:=six_of (Hn w (.cells #[.int .i64 4,.bool false,.int .i64 0,.string ⟨#[]⟩,.slice a1 l1 c1,.slice a2 its.length c2] 28))
  have hwlt:w.heap.size<(w.alloc (.cells #[.int .i64 4,.bool false,.int .i64 0,.string ⟨#[]⟩,.slice a1 l1 c1,.slice a2 its.length c2] 28)).heap.size:=by simp
  obtain ⟨w1,hw1⟩:∃W,W=w.alloc (.cells #[.int .i64 4,.bool false,.int .i64 0,.string ⟨#[]⟩,.slice a1 l1 c1,.slice a2 its.length c2] 28):=⟨_,rfl⟩
  rw [←hw1] at b1 ck hwlt
  have H:=Hh his
  have HS:=Hh hS
  have HV:=Hh hvl
  have HNL:=Hh hnl
  have HP:=Hh hP0
  have HLP:=Hh hlenP
  have HI:=Hh IH
  have B1:=Hh b1
  have CK:=Hh ck
  have WL:=Hh hwlt
  have RB:=Hh (fun wx=>rpbig_any its.length 2 wx (by decide) (by omega))
  rw [show ((2:Nat):Int)=2 from rfl] at RB
  have hitz:IntKind.u64.wrap (its.length:Int)=(its.length:Int):=by rw [IntKind.wrap_u64];omega
  have hcat0:¬9223372036854775807<1+(bC (bigL its.length 2)).size:=by rw [bC_size,bigL_length];omega
  obtain ⟨h0,hh0⟩:∃h0,h0=headP (lstH its.length) its.length:=⟨_,rfl⟩
  have hhl:h0.length≤9:=by rw [hh0];exact headM_cost (by unfold lstH;split <;> simp)
  have HH0:=Hh hh0
  rw [←hh0]
  clear his hS hvl hnl hP0 hlenP IH b1 hwlt hlen hws hn hv ht hh0 hns
  have START:∀ (K:World→Prop),(∀w2,Below w1.heap.size w1 w2→K w2)→True:=fun _ _=>trivial
  clear START
  by_cases hsm:its.length<16
  case' pos=>
   go_enter Tryz.func86,Tryz.ntmps86
   go_upto_region 1 with fail
   rw [←hw1]
   clear hw1
   have hsm':(its.length:Int)<16:=by omega
   have hx:h0=[UInt8.ofNat (144+its.length)]:=by rw [HH0.out];unfold lstH;rw [if_pos hsm];rfl
   have RO:=Hh (fun wx=>rpone_any (144+(its.length:Int)) (144+its.length) wx (by rw [UInt8.toNat_ofNat'];omega))
   rw [←hx] at RO
   clear hx hsm
   go_upto_region 21 with (first
    | (go_at_call 142;(with_reducible refine (RO.out _).mono ?_);rintro e w3 ⟨rfl,hb3⟩)
    | (go_at_call 141;(with_reducible refine (RB.out _).mono ?_);rintro e w2 ⟨rfl,hb2⟩))
   have hB2:Below w1.heap.size w1 w3:=hb2.trans (hb3.mono hb2.size)
   generalize hww:w3=wl at hB2 ⊢
  case' neg=>
   go_enter Tryz.func86,Tryz.ntmps86
   go_upto_region 1 with fail
   rw [←hw1]
   clear hw1
   have hsm':¬ (its.length:Int)<16:=by omega
   have hx:(⟨#[220]⟩:ByteArray)++bC (bigL its.length 2)=bC h0:=by rw [bC_cat,HH0.out];unfold lstH;rw [if_neg hsm];rfl
   clear hsm
   go_upto_region 21 with ((with_reducible refine (RB.out _).mono ?_);rintro e w2 ⟨rfl,hb2⟩)
   try rw [hx]
   clear hx
   have hB2:Below w1.heap.size w1 w2:=hb2
   generalize hww:w2=wl at hB2 ⊢
  all_goals
   clear hww hitz hcat0 RB
   have hz2:=Ll WL.out hB2.size
   have ck2:wl.cell? ⟨w.heap.size,5,none⟩=_:=(hB2.cell (p:=⟨w.heap.size,5,none⟩) WL.out).trans CK.out.2.2.2.2.2
   have HB2:=Hh hB2
   clear ck hB2 hb2
   go_upto_region 22 with fail
   clear ck2
   go_loopw [4,51] (fun v i wr=>∃ (j:Nat),i=.int .i64 j∧j≤its.length∧v=.string (bC (h0++(P0.take j).flatten))∧Below wl.heap.size wl wr) (fun _ i _=>its.length - (intOf i).toNat)
   case atStart=>exact ⟨0,rfl,Nat.zero_le _,by simp,Br _ _⟩
   case round=>
    obtain ⟨j,rfl,hj,rfl,hB⟩:=hrel
    have hB12:=HB2.out.trans (hB.mono HB2.out.size)
    by_cases hlt:j<its.length
    ·have hlt':(j:Int)<(its.length:Int):=by omega
     have hj0:(0:Int)≤(j:Int):=by omega
     obtain ⟨-,-,-,b,off,y,a3,l3,c3,a4,l4,c4,rfl,hSb,hx,hnd,k0,k1,k2,k3,k4,k5⟩:=H.out.at hlt
     have hb1w:=B1.out.trans (hB12.mono B1.out.size)
     have hbw:=HS.out b hSb
     have q0:=(hb1w.cell (p:=⟨b,off+j * 6,none⟩) hbw).trans k0
     have q1:=(hb1w.cell (p:=⟨b,off+j * 6+1,none⟩) hbw).trans k1
     have q2:=(hb1w.cell (p:=⟨b,off+j * 6+2,none⟩) hbw).trans k2
     have q3:=(hb1w.cell (p:=⟨b,off+j * 6+3,none⟩) hbw).trans k3
     have q4:=(hb1w.cell (p:=⟨b,off+j * 6+4,none⟩) hbw).trans k4
     have q5:=(hb1w.cell (p:=⟨b,off+j * 6+5,none⟩) hbw).trans k5
     clear k0 k1 k2 k3 k4 k5
     have hyv:=HV.out.1 y (List.mem_of_getElem? hx)
     have hyn:=HNL.out.2 y (List.mem_of_getElem? hx)
     have hPj:P0[j]?=some (writeP d y):=by rw [HP.out,List.getElem?_map,hx];rfl
     obtain ⟨Q,hQ⟩:∃Q,Q=(P0.take j).flatten:=⟨_,rfl⟩
     have hnx:=flat_take_succ hPj
     have hat:=flat_take_le P0 (j+1)
     rw [hnx,Lg] at hat
     rw [←hQ] at hnx hat ⊢
     have hQl:Q.length≤35184372088832:=by have:=HLP.out;omega
     have hyl:(writeP d y).length≤35184372088832:=by have:=HLP.out;omega
     have WR:=Hh (fun (wx:World) (hb:Below w.heap.size w wx)=>HI.out D S _ y wx (hnd.same fun b hb'=>hb.block b (HS.out b hb')) (fun b hb'=>Ll (HS.out b hb') hb.size) hyv hyn hyl)
     have bA:=hb1w.alloc (o:=.cells #[.int .i64 y.kind,.bool y.bool,.int .i64 y.num,.string y.text,.slice a3 l3 c3,.slice a4 l4 c4] 28) hb1w.size
     have cA:=six_of (Hn wr (.cells #[.int .i64 y.kind,.bool y.bool,.int .i64 y.num,.string y.text,.slice a3 l3 c3,.slice a4 l4 c4] 28))
     have hzA:wr.heap.size<(wr.alloc (.cells #[.int .i64 y.kind,.bool y.bool,.int .i64 y.num,.string y.text,.slice a3 l3 c3,.slice a4 l4 c4] 28)).heap.size:=by simp
     have b2A:=hB.alloc (o:=.cells #[.int .i64 y.kind,.bool y.bool,.int .i64 y.num,.string y.text,.slice a3 l3 c3,.slice a4 l4 c4] 28) hB.size
     obtain ⟨Y,hY⟩:∃Y,Y=writeP d y:=⟨_,rfl⟩
     rw [←hY] at hyl hnx WR
     have HNX:=Hh hnx
     clear hPj hat hnx hx hnd hyv hyn hY hb1w hQ
     go_upto_region 24 with fail
     generalize wr.alloc (.cells #[.int .i64 y.kind,.bool y.bool,.int .i64 y.num,.string y.text,.slice a3 l3 c3,.slice a4 l4 c4] 28)=wa at bA b2A cA hzA ⊢
     have BA:=Hh (Ai bA b2A)
     have cx:wa.cell? ⟨w.heap.size,0,none⟩=some (.int .i64 4)∧wa.cell? ⟨w.heap.size,4,none⟩=some (.slice a1 l1 c1):=⟨(b2A.cell (p:=⟨w.heap.size,0,none⟩) hz2).trans ((HB2.out.cell (p:=⟨w.heap.size,0,none⟩) WL.out).trans CK.out.1),(b2A.cell (p:=⟨w.heap.size,4,none⟩) hz2).trans ((HB2.out.cell (p:=⟨w.heap.size,4,none⟩) WL.out).trans CK.out.2.2.2.2.1)⟩
     clear bA b2A hB hB12
     have hcat1:¬9223372036854775807<(bC (h0++Q)).size+(bC Y).size:=by rw [bC_size,bC_size,Lg];omega
     go_wp2_with (go_at_call 86;(with_reducible refine (WR.out _ BA.out.1).mono ?_);rintro e wn ⟨rfl,hbn⟩)
     go_roundw
     case rel=>
      refine ⟨j+1,by go_num,by omega,?_,BA.out.2.trans (hbn.mono BA.out.2.size)⟩
      rw [HNX.out]
      simp only [bC_app,List.append_assoc]
     case measure=>simp [intOf];omega
    ·have hlt':¬ (j:Int)<(its.length:Int):=by omega
     have hPl:P0.length≤its.length:=by rw [HP.out];simp [List.length_zipWith];try omega
     rw [List.take_of_length_le (by omega)]
     clear hPl
     go_wp2
     go_ret
     exact ⟨rfl,B1.out.trans (hB12.mono B1.out.size)⟩
 ·obtain ⟨P0,hP0⟩:∃P,P=List.zipWith (fun s y=>pText s++writeP d y) ns its:=⟨_,rfl⟩
  have hws:writeP (d+1) (.mk 5 false 0 ⟨#[]⟩ ns its)=headP (mapH its.length) its.length++P0.flatten:=by rw [hP0];rfl
  rw [hws] at hlen ⊢
  have hlenP:P0.flatten.length≤35184372088832:=by rw [Lg] at hlen;omega
  obtain ⟨ai,ci,ei,hi1,hi2,-⟩:=id his
  have hl2:l2=its.length:=by cases ei;rfl
  subst hl2
  clear ei
  obtain ⟨an,cn,en,hn1,hn2,hSn⟩:=hns
  have hl1:l1=ns.length∧a1=an:=by cases en;exact ⟨rfl,rfl⟩
  obtain ⟨rfl,rfl⟩:=hl1
  clear en
  have HSN:=Hh hSn
  have HL2:=Hh hlen2
  clear hSn
  have hmost:=hvl.2.1
  have ck:=six_of (Hn w (.cells #[.int .i64 5,.bool false,.int .i64 0,.string ⟨#[]⟩,.slice a1 ns.length c1,.slice a2 its.length c2] 28))
  have hwlt:w.heap.size<(w.alloc (.cells #[.int .i64 5,.bool false,.int .i64 0,.string ⟨#[]⟩,.slice a1 ns.length c1,.slice a2 its.length c2] 28)).heap.size:=by simp
  obtain ⟨w1,hw1⟩:∃W,W=w.alloc (.cells #[.int .i64 5,.bool false,.int .i64 0,.string ⟨#[]⟩,.slice a1 ns.length c1,.slice a2 its.length c2] 28):=⟨_,rfl⟩
  rw [←hw1] at b1 ck hwlt
  have H:=Hh his
  have HS:=Hh hS
  have HV:=Hh hvl
  have HNL:=Hh hnl
  have HP:=Hh hP0
  have HLP:=Hh hlenP
  have HI:=Hh IH
  have B1:=Hh b1
  have CK:=Hh ck
  have WL:=Hh hwlt
  have RB:=Hh (fun wx=>rpbig_any its.length 2 wx (by decide) (by omega))
  rw [show ((2:Nat):Int)=2 from rfl] at RB
  have hitz:IntKind.u64.wrap (its.length:Int)=(its.length:Int):=by rw [IntKind.wrap_u64];omega
  have hcat0:¬9223372036854775807<1+(bC (bigL its.length 2)).size:=by rw [bC_size,bigL_length];omega
  obtain ⟨h0,hh0⟩:∃h0,h0=headP (mapH its.length) its.length:=⟨_,rfl⟩
  have hhl:h0.length≤9:=by rw [hh0];exact headM_cost (by unfold mapH;split <;> simp)
  have HH0:=Hh hh0
  rw [←hh0]
  clear his hS hvl hnl hP0 hlenP IH b1 hwlt hlen hws hn hv ht hh0 hlen2 hn1 hn2
  have START:∀ (K:World→Prop),(∀w2,Below w1.heap.size w1 w2→K w2)→True:=fun _ _=>trivial
  clear START
  by_cases hsm:its.length<16
  case' pos=>
   go_enter Tryz.func86,Tryz.ntmps86
   go_upto_region 1 with fail
   rw [←hw1]
   clear hw1
   have hsm':(its.length:Int)<16:=by omega
   have hx:h0=[UInt8.ofNat (128+its.length)]:=by rw [HH0.out];unfold mapH;rw [if_pos hsm];rfl
   have RO:=Hh (fun wx=>rpone_any (128+(its.length:Int)) (128+its.length) wx (by rw [UInt8.toNat_ofNat'];omega))
   rw [←hx] at RO
   clear hx hsm
   go_upto_region 21 with (first
    | (go_at_call 142;(with_reducible refine (RO.out _).mono ?_);rintro e w3 ⟨rfl,hb3⟩)
    | (go_at_call 141;(with_reducible refine (RB.out _).mono ?_);rintro e w2 ⟨rfl,hb2⟩))
   have hB2:Below w1.heap.size w1 w3:=hb2.trans (hb3.mono hb2.size)
   generalize hww:w3=wl at hB2 ⊢
  case' neg=>
   go_enter Tryz.func86,Tryz.ntmps86
   go_upto_region 1 with fail
   rw [←hw1]
   clear hw1
   have hsm':¬ (its.length:Int)<16:=by omega
   have hx:(⟨#[222]⟩:ByteArray)++bC (bigL its.length 2)=bC h0:=by rw [bC_cat,HH0.out];unfold mapH;rw [if_neg hsm];rfl
   clear hsm
   go_upto_region 21 with ((with_reducible refine (RB.out _).mono ?_);rintro e w2 ⟨rfl,hb2⟩)
   try rw [hx]
   clear hx
   have hB2:Below w1.heap.size w1 w2:=hb2
   generalize hww:w2=wl at hB2 ⊢
  all_goals
   clear hww hitz hcat0 RB
   have hz2:=Ll WL.out hB2.size
   have ck2:wl.cell? ⟨w.heap.size,5,none⟩=_:=(hB2.cell (p:=⟨w.heap.size,5,none⟩) WL.out).trans CK.out.2.2.2.2.2
   have HB2:=Hh hB2
   clear ck hB2 hb2
   go_upto_region 22 with fail
   clear ck2
   go_loopw [4,51] (fun v i wr=>∃ (j:Nat),i=.int .i64 j∧j≤its.length∧v=.string (bC (h0++(P0.take j).flatten))∧Below wl.heap.size wl wr) (fun _ i _=>its.length - (intOf i).toNat)
   case atStart=>exact ⟨0,rfl,Nat.zero_le _,by simp,Br _ _⟩
   case round=>
    obtain ⟨j,rfl,hj,rfl,hB⟩:=hrel
    have hB12:=HB2.out.trans (hB.mono HB2.out.size)
    by_cases hlt:j<its.length
    ·have hlt':(j:Int)<(its.length:Int):=by omega
     have hj0:(0:Int)≤(j:Int):=by omega
     obtain ⟨-,-,-,b,off,y,a3,l3,c3,a4,l4,c4,rfl,hSb,hx,hnd,k0,k1,k2,k3,k4,k5⟩:=H.out.at hlt
     have hb1w:=B1.out.trans (hB12.mono B1.out.size)
     have hbw:=HS.out b hSb
     have q0:=(hb1w.cell (p:=⟨b,off+j * 6,none⟩) hbw).trans k0
     have q1:=(hb1w.cell (p:=⟨b,off+j * 6+1,none⟩) hbw).trans k1
     have q2:=(hb1w.cell (p:=⟨b,off+j * 6+2,none⟩) hbw).trans k2
     have q3:=(hb1w.cell (p:=⟨b,off+j * 6+3,none⟩) hbw).trans k3
     have q4:=(hb1w.cell (p:=⟨b,off+j * 6+4,none⟩) hbw).trans k4
     have q5:=(hb1w.cell (p:=⟨b,off+j * 6+5,none⟩) hbw).trans k5
     obtain ⟨sn,hsn⟩:∃s,ns[j]?=some s:=⟨_,List.getElem?_eq_getElem (by have:=HL2.out;omega)⟩
     obtain ⟨bn,on,hab,hSbn,hcn,hsz⟩:=HSN.out j sn hsn
     subst hab
     have hltn:(j:Int)<(ns.length:Int):=by have:=HL2.out;omega
     have hcnr:=(hb1w.cell (p:=⟨bn,on+j,none⟩) (HS.out bn hSbn)).trans hcn
     have htn:=textOk_le (HV.out.2.2.2 sn (List.mem_of_getElem? hsn))
     have RT:=Hh (fun wx=>rptext_any sn wx htn)
     have hptl:(pText sn).length≤65545:=by
      unfold pText
      rw [Lg,show sn.data.toList.length=sn.size by rw [Array.length_toList];rfl]
      have:=headM_cost (h:=txtH sn.size) (v:=sn.size) (by unfold txtH;(repeat' split) <;> simp)
      omega
     clear k0 k1 k2 k3 k4 k5
     have hyv:=HV.out.1 y (List.mem_of_getElem? hx)
     have hyn:=HNL.out.2 y (List.mem_of_getElem? hx)
     have hPj:P0[j]?=some (pText sn++writeP d y):=by rw [HP.out,List.getElem?_zipWith,hsn,hx]
     obtain ⟨Q,hQ⟩:∃Q,Q=(P0.take j).flatten:=⟨_,rfl⟩
     have hnx:=flat_take_succ hPj
     have hat:=flat_take_le P0 (j+1)
     rw [hnx,Lg,Lg] at hat
     rw [←hQ] at hnx hat ⊢
     have hQl:Q.length≤35184372088832:=by have:=HLP.out;omega
     have hyl:(writeP d y).length≤35184372088832:=by have:=HLP.out;omega
     have WR:=Hh (fun (wx:World) (hb:Below w.heap.size w wx)=>HI.out D S _ y wx (hnd.same fun b hb'=>hb.block b (HS.out b hb')) (fun b hb'=>Ll (HS.out b hb') hb.size) hyv hyn hyl)
     have bA:=hb1w.alloc (o:=.cells #[.int .i64 y.kind,.bool y.bool,.int .i64 y.num,.string y.text,.slice a3 l3 c3,.slice a4 l4 c4] 28) hb1w.size
     have cA:=six_of (Hn wr (.cells #[.int .i64 y.kind,.bool y.bool,.int .i64 y.num,.string y.text,.slice a3 l3 c3,.slice a4 l4 c4] 28))
     have hzA:wr.heap.size<(wr.alloc (.cells #[.int .i64 y.kind,.bool y.bool,.int .i64 y.num,.string y.text,.slice a3 l3 c3,.slice a4 l4 c4] 28)).heap.size:=by simp
     have b2A:=hB.alloc (o:=.cells #[.int .i64 y.kind,.bool y.bool,.int .i64 y.num,.string y.text,.slice a3 l3 c3,.slice a4 l4 c4] 28) hB.size
     obtain ⟨Y,hY⟩:∃Y,Y=writeP d y:=⟨_,rfl⟩
     rw [←hY] at hyl hnx WR
     have HNX:=Hh hnx
     clear hPj hat hnx hx hnd hyv hyn hY hb1w hQ
     go_upto_region 24 with fail
     generalize wr.alloc (.cells #[.int .i64 y.kind,.bool y.bool,.int .i64 y.num,.string y.text,.slice a3 l3 c3,.slice a4 l4 c4] 28)=wa at bA b2A cA hzA ⊢
     have BA:=Hh (Ai bA b2A)
     have cx:wa.cell? ⟨w.heap.size,0,none⟩=some (.int .i64 5)∧wa.cell? ⟨w.heap.size,4,none⟩=some (.slice (some ⟨bn,on,none⟩) ns.length c1):=⟨(b2A.cell (p:=⟨w.heap.size,0,none⟩) hz2).trans ((HB2.out.cell (p:=⟨w.heap.size,0,none⟩) WL.out).trans CK.out.1),(b2A.cell (p:=⟨w.heap.size,4,none⟩) hz2).trans ((HB2.out.cell (p:=⟨w.heap.size,4,none⟩) WL.out).trans CK.out.2.2.2.2.1)⟩
     have hcnA:wa.cell? ⟨bn,on+j,none⟩=some (.string sn):=(bA.cell (p:=⟨bn,on+j,none⟩) (HS.out bn hSbn)).trans hcn
     have KA:=Hh (fun wx (hb:Below wa.heap.size wa wx)=>(show wx.cell? ⟨wr.heap.size,0,none⟩=some (.int .i64 y.kind)∧wx.cell? ⟨wr.heap.size,1,none⟩=some (.bool y.bool)∧wx.cell? ⟨wr.heap.size,2,none⟩=some (.int .i64 y.num)∧wx.cell? ⟨wr.heap.size,3,none⟩=some (.string y.text)∧wx.cell? ⟨wr.heap.size,4,none⟩=some (.slice a3 l3 c3)∧wx.cell? ⟨wr.heap.size,5,none⟩=some (.slice a4 l4 c4) from ⟨(hb.cell (p:=⟨wr.heap.size,0,none⟩) hzA).trans cA.1,(hb.cell (p:=⟨wr.heap.size,1,none⟩) hzA).trans cA.2.1,(hb.cell (p:=⟨wr.heap.size,2,none⟩) hzA).trans cA.2.2.1,(hb.cell (p:=⟨wr.heap.size,3,none⟩) hzA).trans cA.2.2.2.1,(hb.cell (p:=⟨wr.heap.size,4,none⟩) hzA).trans cA.2.2.2.2.1,(hb.cell (p:=⟨wr.heap.size,5,none⟩) hzA).trans cA.2.2.2.2.2⟩))
     clear bA b2A hB hB12 cA
     have hcat1:¬9223372036854775807<(bC (h0++Q)).size+(bC (pText sn)).size:=by rw [bC_size,bC_size,Lg];omega
     have hcat2:¬9223372036854775807<(bC (h0++Q)++bC (pText sn)).size+(bC Y).size:=by rw [ByteArray.size_append,bC_size,bC_size,bC_size,Lg];omega
     go_upto_region 26 with ((with_reducible refine (RT.out _).mono ?_);rintro e w5 ⟨rfl,hb5⟩)
     have ca:=KA.out _ hb5
     have hb15:=BA.out.1.trans (hb5.mono BA.out.1.size)
     have HB5:=Hh hb5
     clear hb5
     go_wp2_with (go_at_call 86;(with_reducible refine (WR.out _ hb15).mono ?_);rintro e wn ⟨rfl,hbn0⟩;(have hbn:=HB5.out.trans (hbn0.mono HB5.out.size)))
     go_roundw
     case rel=>
      refine ⟨j+1,by go_num,by omega,?_,BA.out.2.trans (hbn.mono BA.out.2.size)⟩
      rw [HNX.out]
      simp only [bC_app,List.append_assoc]
     case measure=>simp [intOf];omega
    ·have hlt':¬ (j:Int)<(its.length:Int):=by omega
     have hPl:P0.length≤its.length:=by rw [HP.out];simp [List.length_zipWith];try omega
     rw [List.take_of_length_le (by omega)]
     clear hPl
     go_wp2
     go_ret
     exact ⟨rfl,B1.out.trans (hB12.mono B1.out.size)⟩
theorem rpwrite_any:∀d,RPWriteAt d
 | 0=>fun D S cs x w h hS hv=>by cases hv
 | d+1=>rpwrite_step (rpwrite_any d)
end Go.Proofs.YtcklddldejejcaaGreatDoor