/- The document's text of a node. -/
import Derived.Test.YtcklddldejejcaaGreatDoorCinj
import Derived.Test.YtcklddldejejcaaGreatDoorJquo
import Derived.Test.YtcklddldejejcaaGreatDoorJmap
import Derived.Deep.DeepCutAuto
import Derived.Deep.CutRange
set_option linter.unusedVariables false
set_option linter.unusedSimpArgs false
set_option maxHeartbeats 3200000
set_option maxRecDepth 100000
namespace Go.Proofs.YtcklddldejejcaaGreatDoor
open Go Go.ChangeShapes Go.WideShapes Go.ChangeAt Go.RowKit
theorem sepL_take_succ {P:List (List UInt8)} {j:Nat} {p:List UInt8} (h:P[j]?=some p):sepL (P.take (j+1))=sepL (P.take j)++((if j=0 then [] else [44])++p):=by
 rw [List.take_add_one,h]
 show sepL (P.take j++[p])=_
 by_cases hj:j=0
 ·subst hj;rfl
 ·have hne:P.take j ≠ []:=by
   intro e
   have:=congrArg List.length e
   have hl:=lt_of_some h
   rw [List.length_take] at this
   simp only [List.length_nil] at this;omega
  rw [sepL_snoc _ _ hne,if_neg hj];rfl
theorem sepL_take_le (P:List (List UInt8)):∀j,(sepL (P.take j)).length≤(sepL P).length:=by
 have key:∀k j,j+k=P.length→(sepL (P.take j)).length≤(sepL P).length:=by
  intro k
  induction k with
  | zero=>intro j hj;rw [List.take_of_length_le (by omega)];exact Lr _
  | succ k ih=>
   intro j hj
   have hlt:j<P.length:=by omega
   have:=ih (j+1) (by omega)
   rw [sepL_take_succ (List.getElem?_eq_getElem hlt),Lg] at this
   omega
 intro j
 by_cases hj:j≤P.length
 ·exact key (P.length - j) j (by omega)
 ·rw [List.take_of_length_le (by omega)];exact Lr _
theorem sepL_at_le {P:List (List UInt8)} {j:Nat} {p:List UInt8} (h:P[j]?=some p):(sepL (P.take j)).length+1+p.length≤(sepL P).length+1:=by
 have:=sepL_take_le P (j+1)
 rw [sepL_take_succ h,Lg,Lg] at this
 omega
def StrOf (v:Value) (l:List UInt8):Prop:=∃s:ByteArray,v=.string s∧s.data.toList=l
theorem size_of_toList {s:ByteArray} {l:List UInt8} (h:s.data.toList=l):s.size=l.length:=by rw [←h,Array.length_toList];rfl
theorem ba_of_toList {s:ByteArray} {l:List UInt8} (h:s.data.toList=l):s=⟨l.toArray⟩:=by subst h;cases s;simp
theorem ba_size (l:List UInt8):(⟨l.toArray⟩:ByteArray).size=l.length:=by show l.toArray.size=_;simp
theorem zip_at {W:ND→List UInt8} {ns:List ByteArray} {its:List ND} {j:Nat} {s:ByteArray} {y:ND} (h1:ns[j]?=some s) (h2:its[j]?=some y):(List.zipWith (fun s y=>quoteL s.data.toList++58::W y) ns its)[j]?=some (quoteL s.data.toList++58::W y):=by
 rw [List.getElem?_zipWith,h1,h2]
theorem fmtb_any (b:Bool) (w:World):Calls Tryz.prog 129 #[.bool b] w fun e w'=>e=.returned (.string (if b then ⟨#[116,114,117,101]⟩ else ⟨#[102,97,108,115,101]⟩))∧w=w':=by
 cases b
 all_goals
  go_enter Tryz.func129,Tryz.ntmps129
  go_wp2
  go_ret
  exact ⟨rfl,rfl⟩
def RWriteAt (d:Nat):Prop:=∀ (D:Nat) (S:Nat→Prop) (cs:List Value) (x:ND) (w:World),NodeIn D S w cs x→(∀b,S b→b<w.heap.size)→validN d x=true→numsB d x=true→(writeN d x).length≤35184372088832→Itab w →
 Calls Tryz.prog 82 #[.agg cs.toArray] w fun e w'=>e=.returned (.string ⟨(writeN d x).toArray⟩)∧Below w.heap.size w w'
theorem rwrite_step {d:Nat} (IH:RWriteAt d):RWriteAt (d+1):=by
 intro D S cs x w h hS hv hn hlen hT
 obtain ⟨a1,l1,c1,a2,l2,c2,rfl⟩:=h.slices
 have b1:=(Br w.heap.size w).alloc (o:=.cells #[.int .i64 x.kind,.bool x.bool,.int .i64 x.num,.string x.text,.slice a1 l1 c1,.slice a2 l2 c2] 28) (Lr _)
 have hnl:=numsB_parts hn
 have hvl:=validN_parts hv
 cases D with
 | zero=>exact h.elim
 | succ D=>
 obtain ⟨vn,vi,e,ht,hns,his⟩:=h
 simp only [List.cons.injEq,and_true,true_and] at e
 obtain ⟨rfl,rfl⟩:=e
 have hk:=kinds hv
 obtain ⟨k,b,n,t,ns,its⟩:=x
 simp only [ND.kind,ND.bool,ND.num,ND.text,ND.names,ND.items,nd0,ND.mk.injEq,true_and,and_true] at hk ht hns his b1 hnl hvl ⊢
 rcases hk with ⟨rfl,rfl,rfl,rfl,rfl,rfl⟩ | ⟨rfl,rfl,rfl,rfl,rfl⟩ | ⟨rfl,rfl,rfl,rfl,rfl⟩ | ⟨rfl,rfl,rfl,rfl,rfl⟩ | ⟨rfl,rfl,rfl,rfl,rfl⟩ | ⟨⟨rfl,rfl,rfl,rfl⟩,hlen2⟩
 ·clear hns his hnl hvl hv hn hlen hT IH ht
  go_enter Tryz.func82,Tryz.ntmps82
  go_wp2
  go_ret
  exact ⟨rfl,b1⟩
 ·have F:=Hh (fun wx=>fmtb_any b wx)
  clear hns his hnl hvl hv hn hlen hT IH ht
  cases b
  all_goals
   simp only [Bool.false_eq_true,if_false,if_true] at F
   go_enter Tryz.func82,Tryz.ntmps82
   go_wp2_with (go_at_call 129;(with_reducible refine (F.out _).mono ?_);rintro e w2 ⟨rfl,rfl⟩)
   go_ret
   exact ⟨rfl,b1⟩
 ·obtain ⟨hw,-⟩:=hnl
  unfold wideI at hw
  rw [Bool.and_eq_true,decide_eq_true_eq,decide_eq_true_eq] at hw
  have F:=Hh (fun wx h=>itoa_any n hw.1 hw.2 wx h)
  have HT:=Hh (hT.below b1)
  have B1:=Hh b1
  clear hns his hvl hv hn hlen hT IH ht b1
  go_enter Tryz.func82,Tryz.ntmps82
  go_wp2_with (go_at_call 130;(with_reducible refine (F.out _ HT.out).mono ?_);rintro e w2 ⟨rfl,hb2⟩)
  go_ret
  exact ⟨rfl,B1.out.trans (hb2.mono B1.out.size)⟩
 ·have hs:=textOk_size hvl.2.2.1
  have F:=Hh (fun wx=>rquote_any t wx (by have:t.data.toList.length=t.size:=(by rw [Array.length_toList];rfl);omega))
  have B1:=Hh b1
  clear hns his hnl hvl hv hn hlen hT IH b1 hs
  go_enter Tryz.func82,Tryz.ntmps82
  go_wp2_with (go_at_call 131;(with_reducible refine (F.out _).mono ?_);rintro e w2 ⟨rfl,hb2⟩)
  go_ret
  exact ⟨rfl,B1.out.trans (hb2.mono B1.out.size)⟩
 ·have hws:=writeN_4 d its
  rw [hws] at hlen ⊢
  obtain ⟨P,hP⟩:∃P,P=its.map (writeN d):=⟨_,rfl⟩
  rw [←hP] at hlen ⊢
  have hlenP:(sepL P).length≤35184372088830:=by rw [List.length_cons,Lg,List.length_singleton] at hlen;omega
  obtain ⟨ai,ci,ei,hi1,hi2,-⟩:=id his
  have hl2:l2=its.length:=by cases ei;rfl
  subst hl2
  clear ei
  have hmost:=hvl.2.1
  have ck:=six_of (Hn w (.cells #[.int .i64 4,.bool false,.int .i64 0,.string ⟨#[]⟩,.slice a1 l1 c1,.slice a2 its.length c2] 28))
  have hwlt:w.heap.size<(w.alloc (.cells #[.int .i64 4,.bool false,.int .i64 0,.string ⟨#[]⟩,.slice a1 l1 c1,.slice a2 its.length c2] 28)).heap.size:=by simp
  generalize hw1:w.alloc (.cells #[.int .i64 4,.bool false,.int .i64 0,.string ⟨#[]⟩,.slice a1 l1 c1,.slice a2 its.length c2] 28)=w1 at b1 ck hwlt
  have H:=Hh his
  have HS:=Hh hS
  have HV:=Hh hvl
  have HNL:=Hh hnl
  have HT:=Hh hT
  have HP:=Hh hP
  have HLP:=Hh hlenP
  have HI:=Hh IH
  have B1:=Hh b1
  have CK:=Hh ck
  have WL:=Hh hwlt
  clear his hns hS hvl hnl hT hP hlenP IH b1 hwlt hlen hws hn hv ht
  go_enter Tryz.func82,Tryz.ntmps82
  go_upto_region 1 with fail
  clear hw1
  go_upto_region 12 with fail
  clear ck
  go_loopw [3,29] (fun v i wr=>∃ (j:Nat),i=.int .i64 j∧j≤its.length∧StrOf v (sepL (P.take j))∧Below w1.heap.size w1 wr) (fun _ i _=>its.length - (intOf i).toNat)
  case atStart=>exact ⟨0,rfl,Nat.zero_le _,⟨_,rfl,by simp [sepL]⟩,Br _ _⟩
  case round=>
   obtain ⟨j,rfl,hj,⟨A,rfl,hA⟩,hB⟩:=hrel
   have hcx:wr.heap[w.heap.size]?=w1.heap[w.heap.size]?:=hB.block _ WL.out
   have ck:wr.cell? ⟨w.heap.size,0,none⟩=_∧wr.cell? ⟨w.heap.size,4,none⟩=_:=⟨(hB.cell (p:=⟨w.heap.size,0,none⟩) WL.out).trans CK.out.1,(hB.cell (p:=⟨w.heap.size,4,none⟩) WL.out).trans CK.out.2.2.2.2.1⟩
   by_cases hlt:j<its.length
   ·have hlt':(j:Int)<(its.length:Int):=by omega
    have hj0:(0:Int)≤(j:Int):=by omega
    obtain ⟨-,-,-,b,off,y,a3,l3,c3,a4,l4,c4,rfl,hSb,hx,hnd,k0,k1,k2,k3,k4,k5⟩:=H.out.at hlt
    have hbw:=Ll (HS.out b hSb) B1.out.size
    have q0:=((hB.cell (p:=⟨b,off+j * 6,none⟩) hbw).trans (B1.out.cell (p:=⟨b,off+j * 6,none⟩) (HS.out b hSb))).trans k0
    have q1:=((hB.cell (p:=⟨b,off+j * 6+1,none⟩) hbw).trans (B1.out.cell (p:=⟨b,off+j * 6+1,none⟩) (HS.out b hSb))).trans k1
    have q2:=((hB.cell (p:=⟨b,off+j * 6+2,none⟩) hbw).trans (B1.out.cell (p:=⟨b,off+j * 6+2,none⟩) (HS.out b hSb))).trans k2
    have q3:=((hB.cell (p:=⟨b,off+j * 6+3,none⟩) hbw).trans (B1.out.cell (p:=⟨b,off+j * 6+3,none⟩) (HS.out b hSb))).trans k3
    have q4:=((hB.cell (p:=⟨b,off+j * 6+4,none⟩) hbw).trans (B1.out.cell (p:=⟨b,off+j * 6+4,none⟩) (HS.out b hSb))).trans k4
    have q5:=((hB.cell (p:=⟨b,off+j * 6+5,none⟩) hbw).trans (B1.out.cell (p:=⟨b,off+j * 6+5,none⟩) (HS.out b hSb))).trans k5
    clear k0 k1 k2 k3 k4 k5
    have hyv:=HV.out.1 y (List.mem_of_getElem? hx)
    have hyn:=HNL.out.2 y (List.mem_of_getElem? hx)
    have hPj:P[j]?=some (writeN d y):=by rw [HP.out,List.getElem?_map,hx];rfl
    have hat:=sepL_at_le hPj
    have hnx:=sepL_take_succ hPj
    have hAs:=size_of_toList hA
    have hyl:(writeN d y).length≤35184372088830:=by have:=HLP.out;omega
    have hAl:A.size≤35184372088830:=by have:=HLP.out;omega
    have WR:=Hh (fun (wx:World) (hb:Below w1.heap.size w1 wx)=>HI.out D S _ y wx (hnd.same fun b hb'=>(hb.block b (Ll (HS.out b hb') B1.out.size)).trans (B1.out.block b (HS.out b hb'))) (fun b hb'=>Ll (HS.out b hb') (Nat.le_trans B1.out.size hb.size)) hyv hyn (by omega) ((HT.out.below B1.out).below (hb.mono (Lr _))))
    have bA:=hB.alloc (o:=.cells #[.int .i64 y.kind,.bool y.bool,.int .i64 y.num,.string y.text,.slice a3 l3 c3,.slice a4 l4 c4] 28) hB.size
    have cA:=six_of (Hn wr (.cells #[.int .i64 y.kind,.bool y.bool,.int .i64 y.num,.string y.text,.slice a3 l3 c3,.slice a4 l4 c4] 28))
    have hzA:wr.heap.size<(wr.alloc (.cells #[.int .i64 y.kind,.bool y.bool,.int .i64 y.num,.string y.text,.slice a3 l3 c3,.slice a4 l4 c4] 28)).heap.size:=by simp
    have hwz:w1.heap.size≤wr.heap.size:=hB.size
    obtain ⟨Y,hY⟩:∃Y,Y=writeN d y:=⟨_,rfl⟩
    rw [←hY] at hyl hnx WR
    obtain ⟨yy,hyy⟩:∃yy:ByteArray,yy=⟨Y.toArray⟩:=⟨_,rfl⟩
    rw [←hyy] at WR
    have hYs:yy.size=Y.length:=by rw [hyy];exact ba_size Y
    have HYL:Hid (yy.data.toList=Y):=Hh (by rw [hyy])
    have HNX:=Hh hnx
    have HA:=Hh hA
    have HB:=Hh hB
    have CA:=Hh cA
    clear hPj hat hnx hA hx hnd hyv hyn hY cA hB hcx hyy
    go_upto_region 14 with fail
    generalize wr.alloc (.cells #[.int .i64 y.kind,.bool y.bool,.int .i64 y.num,.string y.text,.slice a3 l3 c3,.slice a4 l4 c4] 28)=wa at bA CA hzA ⊢
    have BA:=Hh bA
    have CX:Hid (wa.cell? ⟨w.heap.size,0,none⟩=some (.int .i64 4)∧wa.cell? ⟨w.heap.size,4,none⟩=some (.slice a1 l1 c1)):=Hh ⟨(bA.cell (p:=⟨w.heap.size,0,none⟩) WL.out).trans CK.out.1,(bA.cell (p:=⟨w.heap.size,4,none⟩) WL.out).trans CK.out.2.2.2.2.1⟩
    clear bA ck
    have hcat0:¬9223372036854775807<A.size+1:=by omega
    go_upto_if 35 with fail
    go_cut [3] from 35 to 54 (fun v wx=>∃A2,v=.string A2∧A2.data.toList=sepL (P.take j)++(if j=0 then [] else [44])∧wx=wa)
    case first=>
     by_cases hj1:0<j
     ·have hj1':(0:Int)<(j:Int):=by omega
      go_wp2
      go_meet
      case rel=>exact ⟨_,rfl,by rw [ByteArray.data_append,Array.toList_append,HA.out,if_neg (by omega)],rfl⟩
     ·have hj1':¬ (0:Int)<(j:Int):=by omega
      go_wp2
      go_meet
      case rel=>exact ⟨_,rfl,by rw [HA.out,if_pos (by omega)];simp,rfl⟩
    case rest=>
     obtain ⟨A2,rfl,hA2,rfl⟩:=hcut
     have hA2s:A2.size≤35184372088831:=by
      have:=size_of_toList hA2
      rw [Lg] at this
      have h2:=size_of_toList HA.out
      have:(if j=0 then ([]:List UInt8) else [44]).length≤1:=by split <;> simp
      omega
     have HA2:=Hh hA2
     have ca:=CA.out
     have cx:=CX.out
     clear hA2
     have hcat1:¬9223372036854775807<A2.size+yy.size:=by omega
     clear hYs
     go_wp2_with (go_at_call 82;(with_reducible refine (WR.out _ BA.out).mono ?_);rintro e wn ⟨rfl,hbn⟩)
     have hB9:=BA.out.trans (hbn.mono BA.out.size)
     clear hbn
     go_roundw
     case rel=>
      refine ⟨j+1,by go_num,by omega,⟨_,rfl,?_⟩,hB9⟩
      rw [HNX.out]
      simp only [ByteArray.data_append,Array.toList_append,HA2.out,HYL.out,List.append_assoc]
      try simp
     case measure=>simp [intOf];omega
   ·have hlt':¬ (j:Int)<(its.length:Int):=by omega
    have hPl:P.length≤its.length:=by rw [HP.out];simp [List.length_zipWith];try omega
    rw [List.take_of_length_le (by omega)] at hA
    have hAs:=size_of_toList hA
    have hAl:A.size≤35184372088830:=by have:=HLP.out;omega
    have HA:=Hh hA
    have hcat1:¬9223372036854775807<1+A.size:=by omega
    have hcat2:¬9223372036854775807<1+A.size+1:=by omega
    clear hA hAs hPl
    go_wp2
    go_ret
    refine ⟨?_,B1.out.trans (hB.mono B1.out.size)⟩
    refine congrArg (fun q=>Ending.returned (.string q)) (ba_of_toList ?_)
    simp [ByteArray.data_append,HA.out]
 ·have hws:=writeN_5 d ns its
  rw [hws] at hlen ⊢
  obtain ⟨P,hP⟩:∃P,P=List.zipWith (fun s y=>quoteL s.data.toList++58::writeN d y) ns its:=⟨_,rfl⟩
  rw [←hP] at hlen ⊢
  have hlenP:(sepL P).length≤35184372088830:=by rw [List.length_cons,Lg,List.length_singleton] at hlen;omega
  obtain ⟨ai,ci,ei,hi1,hi2,-⟩:=id his
  have hl2:l2=its.length:=by cases ei;rfl
  subst hl2
  clear ei
  have hl1:l1=ns.length:=by obtain ⟨_,_,e,_⟩:=id hns;cases e;rfl
  have hmost:=hvl.2.1
  have ck:=six_of (Hn w (.cells #[.int .i64 5,.bool false,.int .i64 0,.string ⟨#[]⟩,.slice a1 l1 c1,.slice a2 its.length c2] 28))
  have hwlt:w.heap.size<(w.alloc (.cells #[.int .i64 5,.bool false,.int .i64 0,.string ⟨#[]⟩,.slice a1 l1 c1,.slice a2 its.length c2] 28)).heap.size:=by simp
  generalize hw1:w.alloc (.cells #[.int .i64 5,.bool false,.int .i64 0,.string ⟨#[]⟩,.slice a1 l1 c1,.slice a2 its.length c2] 28)=w1 at b1 ck hwlt
  have H:=Hh his
  have HN:=Hh hns
  have HS:=Hh hS
  have HV:=Hh hvl
  have HNL:=Hh hnl
  have HT:=Hh hT
  have HP:=Hh hP
  have HLP:=Hh hlenP
  have HI:=Hh IH
  have B1:=Hh b1
  have CK:=Hh ck
  have WL:=Hh hwlt
  have HL2:=Hh hlen2
  have HL1:=Hh hl1
  clear his hns hS hvl hnl hT hP hlenP IH b1 hwlt hlen hws hn hv ht hlen2 hl1
  go_enter Tryz.func82,Tryz.ntmps82
  go_upto_region 1 with fail
  clear hw1
  go_upto_region 12 with fail
  clear ck
  go_loopw [3,29] (fun v i wr=>∃ (j:Nat),i=.int .i64 j∧j≤its.length∧StrOf v (sepL (P.take j))∧Below w1.heap.size w1 wr) (fun _ i _=>its.length - (intOf i).toNat)
  case atStart=>exact ⟨0,rfl,Nat.zero_le _,⟨_,rfl,by simp [sepL]⟩,Br _ _⟩
  case round=>
   obtain ⟨j,rfl,hj,⟨A,rfl,hA⟩,hB⟩:=hrel
   have hcx:wr.heap[w.heap.size]?=w1.heap[w.heap.size]?:=hB.block _ WL.out
   have ck:wr.cell? ⟨w.heap.size,0,none⟩=_∧wr.cell? ⟨w.heap.size,4,none⟩=_:=⟨(hB.cell (p:=⟨w.heap.size,0,none⟩) WL.out).trans CK.out.1,(hB.cell (p:=⟨w.heap.size,4,none⟩) WL.out).trans CK.out.2.2.2.2.1⟩
   by_cases hlt:j<its.length
   ·have hlt':(j:Int)<(its.length:Int):=by omega
    have hj0:(0:Int)≤(j:Int):=by omega
    obtain ⟨-,-,-,b,off,y,a3,l3,c3,a4,l4,c4,rfl,hSb,hx,hnd,k0,k1,k2,k3,k4,k5⟩:=H.out.at hlt
    have hbw:=Ll (HS.out b hSb) B1.out.size
    have q0:=((hB.cell (p:=⟨b,off+j * 6,none⟩) hbw).trans (B1.out.cell (p:=⟨b,off+j * 6,none⟩) (HS.out b hSb))).trans k0
    have q1:=((hB.cell (p:=⟨b,off+j * 6+1,none⟩) hbw).trans (B1.out.cell (p:=⟨b,off+j * 6+1,none⟩) (HS.out b hSb))).trans k1
    have q2:=((hB.cell (p:=⟨b,off+j * 6+2,none⟩) hbw).trans (B1.out.cell (p:=⟨b,off+j * 6+2,none⟩) (HS.out b hSb))).trans k2
    have q3:=((hB.cell (p:=⟨b,off+j * 6+3,none⟩) hbw).trans (B1.out.cell (p:=⟨b,off+j * 6+3,none⟩) (HS.out b hSb))).trans k3
    have q4:=((hB.cell (p:=⟨b,off+j * 6+4,none⟩) hbw).trans (B1.out.cell (p:=⟨b,off+j * 6+4,none⟩) (HS.out b hSb))).trans k4
    have q5:=((hB.cell (p:=⟨b,off+j * 6+5,none⟩) hbw).trans (B1.out.cell (p:=⟨b,off+j * 6+5,none⟩) (HS.out b hSb))).trans k5
    clear k0 k1 k2 k3 k4 k5
    have hyv:=HV.out.1 y (List.mem_of_getElem? hx)
    have hyn:=HNL.out.2 y (List.mem_of_getElem? hx)
    obtain ⟨-,-,-,bn,on,rfl,hSn,hcn,hsn⟩:=HN.out.at (j:=j) (by have:=HL2.out;omega)
    have hcn':=((hB.cell (p:=⟨bn,on+j,none⟩) (Ll (HS.out bn hSn) B1.out.size)).trans (B1.out.cell (p:=⟨bn,on+j,none⟩) (HS.out bn hSn))).trans hcn
    have hjn:j<ns.length:=by have:=HL2.out;omega
    obtain ⟨sn,hse⟩:∃s,s=ns[j]:=⟨_,rfl⟩
    have hnj:ns[j]?=some sn:=by rw [hse];exact List.getElem?_eq_getElem hjn
    rw [←hse] at hcn'
    have hPj:P[j]?=some (quoteL sn.data.toList++58::writeN d y):=by rw [HP.out];exact zip_at hnj hx
    have hsz:=textOk_size (HV.out.2.2.2 sn (List.mem_of_getElem? hnj))
    have hsz':sn.size≤65536:=by have h:sn.data.toList.length=sn.size:=(by rw [Array.length_toList];rfl);omega
    have FQ:=Hh (fun wx=>rquote_any sn wx (by omega))
    have hlt1:(j:Int)<(l1:Int):=by have:=HL1.out;have:=HL2.out;omega
    clear hcn hse hnj hsz
    have hat:=sepL_at_le hPj
    have hnx:=sepL_take_succ hPj
    have hAs:=size_of_toList hA
    rw [Lg,List.length_cons] at hat
    have hyl:(writeN d y).length≤35184372088830:=by have:=HLP.out;omega
    have hAl:A.size≤35184372088830:=by have:=HLP.out;omega
    have hql:(quoteL sn.data.toList).length≤35184372088830:=by have:=HLP.out;omega
    have WR:=Hh (fun (wx:World) (hb:Below w1.heap.size w1 wx)=>HI.out D S _ y wx (hnd.same fun b hb'=>(hb.block b (Ll (HS.out b hb') B1.out.size)).trans (B1.out.block b (HS.out b hb'))) (fun b hb'=>Ll (HS.out b hb') (Nat.le_trans B1.out.size hb.size)) hyv hyn (by omega) ((HT.out.below B1.out).below (hb.mono (Lr _))))
    have bA:=hB.alloc (o:=.cells #[.int .i64 y.kind,.bool y.bool,.int .i64 y.num,.string y.text,.slice a3 l3 c3,.slice a4 l4 c4] 28) hB.size
    have cA:=six_of (Hn wr (.cells #[.int .i64 y.kind,.bool y.bool,.int .i64 y.num,.string y.text,.slice a3 l3 c3,.slice a4 l4 c4] 28))
    have hzA:wr.heap.size<(wr.alloc (.cells #[.int .i64 y.kind,.bool y.bool,.int .i64 y.num,.string y.text,.slice a3 l3 c3,.slice a4 l4 c4] 28)).heap.size:=by simp
    have hwz:w1.heap.size≤wr.heap.size:=hB.size
    obtain ⟨Y,hY⟩:∃Y,Y=writeN d y:=⟨_,rfl⟩
    rw [←hY] at hyl hnx WR
    obtain ⟨yy,hyy⟩:∃yy:ByteArray,yy=⟨Y.toArray⟩:=⟨_,rfl⟩
    rw [←hyy] at WR
    have hYs:yy.size=Y.length:=by rw [hyy];exact ba_size Y
    have HYL:Hid (yy.data.toList=Y):=Hh (by rw [hyy])
    obtain ⟨Z,hZ⟩:∃Z,Z=quoteL sn.data.toList:=⟨_,rfl⟩
    rw [←hZ] at hql hnx FQ
    obtain ⟨zz,hzz⟩:∃zz:ByteArray,zz=⟨Z.toArray⟩:=⟨_,rfl⟩
    rw [←hzz] at FQ
    have hZs:zz.size=Z.length:=by rw [hzz];exact ba_size Z
    have HZL:Hid (zz.data.toList=Z):=Hh (by rw [hzz])
    have HNX:=Hh hnx
    have HA:=Hh hA
    have HB:=Hh hB
    have CA:=Hh cA
    clear hPj hat hnx hA hx hnd hyv hyn hY cA hB hcx hyy hZ hzz
    go_upto_region 14 with fail
    generalize wr.alloc (.cells #[.int .i64 y.kind,.bool y.bool,.int .i64 y.num,.string y.text,.slice a3 l3 c3,.slice a4 l4 c4] 28)=wa at bA CA hzA ⊢
    have BA:=Hh bA
    have CX:Hid (wa.cell? ⟨w.heap.size,0,none⟩=some (.int .i64 5)∧wa.cell? ⟨w.heap.size,4,none⟩=some (.slice (some ⟨bn,on,none⟩) l1 c1)):=Hh ⟨(bA.cell (p:=⟨w.heap.size,0,none⟩) WL.out).trans CK.out.1,(bA.cell (p:=⟨w.heap.size,4,none⟩) WL.out).trans CK.out.2.2.2.2.1⟩
    have CN:Hid (wa.cell? ⟨bn,on+j,none⟩=some (.string sn)):=Hh ((BA.out.cell (p:=⟨bn,on+j,none⟩) (Ll (HS.out bn hSn) B1.out.size)).trans (((HB.out.cell (p:=⟨bn,on+j,none⟩) (Ll (HS.out bn hSn) B1.out.size)).symm.trans hcn')))
    clear bA ck hcn'
    have hcat0:¬9223372036854775807<A.size+1:=by omega
    go_upto_if 35 with fail
    go_cut [3] from 35 to 54 (fun v wx=>∃A2,v=.string A2∧A2.data.toList=sepL (P.take j)++(if j=0 then [] else [44])∧wx=wa)
    case first=>
     by_cases hj1:0<j
     ·have hj1':(0:Int)<(j:Int):=by omega
      go_wp2
      go_meet
      case rel=>exact ⟨_,rfl,by rw [ByteArray.data_append,Array.toList_append,HA.out,if_neg (by omega)],rfl⟩
     ·have hj1':¬ (0:Int)<(j:Int):=by omega
      go_wp2
      go_meet
      case rel=>exact ⟨_,rfl,by rw [HA.out,if_pos (by omega)];simp,rfl⟩
    case rest=>
     obtain ⟨A2,rfl,hA2,rfl⟩:=hcut
     have hA2s:A2.size≤35184372088831:=by
      have:=size_of_toList hA2
      rw [Lg] at this
      have h2:=size_of_toList HA.out
      have:(if j=0 then ([]:List UInt8) else [44]).length≤1:=by split <;> simp
      omega
     have HA2:=Hh hA2
     have ca:=CA.out
     have cx:=CX.out
     have cn:=CN.out
     clear hA2
     have hcat2:¬9223372036854775807<zz.size+1:=by omega
     have hcat3:¬9223372036854775807<A2.size+(zz.size+1):=by omega
     have hcat4:¬9223372036854775807<A2.size+(zz.size+1)+yy.size:=by omega
     clear hYs hZs
     go_wp2_with fail
     go_at_call 131
     (with_reducible refine (FQ.out _).mono ?_);rintro e wq ⟨rfl,hbq⟩
     have BQ:=BA.out.trans (hbq.mono BA.out.size)
     have cq0:=(hbq.cell (p:=⟨wr.heap.size,0,none⟩) hzA).trans ca.1
     have cq1:=(hbq.cell (p:=⟨wr.heap.size,1,none⟩) hzA).trans ca.2.1
     have cq2:=(hbq.cell (p:=⟨wr.heap.size,2,none⟩) hzA).trans ca.2.2.1
     have cq3:=(hbq.cell (p:=⟨wr.heap.size,3,none⟩) hzA).trans ca.2.2.2.1
     have cq4:=(hbq.cell (p:=⟨wr.heap.size,4,none⟩) hzA).trans ca.2.2.2.2.1
     have cq5:=(hbq.cell (p:=⟨wr.heap.size,5,none⟩) hzA).trans ca.2.2.2.2.2
     clear ca hbq cx cn
     go_wp2_with (go_at_call 82;(with_reducible refine (WR.out _ BQ).mono ?_);rintro e wn ⟨rfl,hbn⟩)
     have hB9:=BQ.trans (hbn.mono BQ.size)
     clear hbn
     go_roundw
     case rel=>
      refine ⟨j+1,by go_num,by omega,⟨_,rfl,?_⟩,hB9⟩
      rw [HNX.out]
      simp only [ByteArray.data_append,Array.toList_append,HA2.out,HYL.out,HZL.out,List.append_assoc]
      try simp
     case measure=>simp [intOf];omega
   ·have hlt':¬ (j:Int)<(its.length:Int):=by omega
    have hPl:P.length≤its.length:=by rw [HP.out];simp [List.length_zipWith];try omega
    rw [List.take_of_length_le (by omega)] at hA
    have hAs:=size_of_toList hA
    have hAl:A.size≤35184372088830:=by have:=HLP.out;omega
    have HA:=Hh hA
    have hcat1:¬9223372036854775807<1+A.size:=by omega
    have hcat2:¬9223372036854775807<1+A.size+1:=by omega
    clear hA hAs hPl
    go_wp2
    go_ret
    refine ⟨?_,B1.out.trans (hB.mono B1.out.size)⟩
    refine congrArg (fun q=>Ending.returned (.string q)) (ba_of_toList ?_)
    simp [ByteArray.data_append,HA.out]
end Go.Proofs.YtcklddldejejcaaGreatDoor