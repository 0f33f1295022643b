/- The writer on nodes: node, items. -/
import Derived.Test.YtcklddldejejcaaGreatDoorJput
import Derived.Test.YtcklddldejejcaaGreatDoorJrw
set_option linter.unusedVariables false
set_option linter.unusedSimpArgs false
set_option maxHeartbeats 3200000
set_option maxRecDepth 100000
namespace Go.Proofs.YtcklddldejejcaaGreatDoor
open Go Go.ChangeShapes Go.WideShapes Go.ChangeAt Go.RowKit
theorem sepL_open_le (P:List (List UInt8)) (j:Nat) (o c:UInt8):(o::sepL (P.take j)).length≤(o::(sepL P++[c])).length:=by
 have:=sepL_take_le P j
 rw [List.length_cons,List.length_cons,Lg];omega
def ITb (g : Nat) (w : World) : Prop := Lib.TabBelow Tryz.prog g w "internal/strconv.uint64pow10" .u64 Lib.pow10Tab
theorem ITb.on {g:Nat} {w w':World} (h:ITb g w) (hb:Below g w w'):ITb g w':=Lib.TabBelow.on h hb
theorem ITb.here {g:Nat} {w:World} (h:ITb g w):Itab w:=Lib.TabBelow.here h
def NPost (B g m d:Nat) (l T:List UInt8) (w:World) (e:Ending) (w':World):Prop:=e=.returned (.tuple #[])∧∃l',WStJ B w' g m l'∧Out l T l'∧l'.length≤900000+d∧WFr 5 g w w'
def NodeWAt (d:Nat):Prop:=∀ (D:Nat) (S:Nat→Prop) (cs:List Value) (x:ND) (w:World) (B g m:Nat) (l:List UInt8),WStJ B w g m l→Letters w m→B≤w.heap.size→l.length≤460000→NodeIn D S w cs x→(∀b,S b→b<g)→validN d x=true→numsB d x=true→ITb g w →
 Calls Tryz.prog 193 #[.pointer (some ⟨g,0,none⟩),.agg cs.toArray] w (NPost B g m d l (writeN d x) w)
theorem node_ne_u8 {cs:Array Value}:∀ (ds:Array Value) (fz:Nat × Nat),Obj.cells cs 28 (0,0) ≠ Obj.cells ds 5 fz:=fun ds fz e=>by simp at e
theorem items4_any {d:Nat} (hd:d<99000) (IH:NodeWAt d) {D:Nat} {S:Nat→Prop} (a1:Option Addr) (l1 c1:Nat) (a2:Option Addr) (l2 c2:Nat) (ns:List ByteArray) (its:List ND) (w:World) {B g m:Nat} {l:List UInt8} (hst:WStJ B w g m l) (hLt:Letters w m) (hB:B≤w.heap.size) (hl:l.length≤460000)
 (hns:StrsIn S w (.slice a1 l1 c1) ns) (his:NodesIn (NodeIn D S w) S w (.slice a2 l2 c2) its) (hS:∀b,S b→b<g) (hv:validN (d+1) (.mk 4 false 0 ⟨#[]⟩ [] its)=true) (hn:numsB (d+1) (.mk 4 false 0 ⟨#[]⟩ [] its)=true) (hT:ITb g w) :
 Calls Tryz.prog 217 #[.pointer (some ⟨g,0,none⟩),.agg #[.int .i64 4,.bool false,.int .i64 0,.string ⟨#[]⟩,.slice a1 l1 c1,.slice a2 l2 c2],.string ⟨#[91]⟩,.string ⟨#[93]⟩] w (NPost B g m (d+1) l (writeN (d+1) (.mk 4 false 0 ⟨#[]⟩ [] its)) w):=by
 have hnl:=numsB_parts hn
 have hvl:=validN_parts hv
 simp only [ND.kind,ND.bool,ND.num,ND.text,ND.names,ND.items] at hnl hvl
 rw [writeN_4]
 obtain ⟨P,hP⟩:∃P,P=its.map (writeN d):=⟨_,rfl⟩
 rw [←hP]
 obtain ⟨ai,ci,ei,hi1,hi2,-⟩:=id his
 have hl2:l2=its.length:=by cases ei;rfl
 subst hl2
 clear ei
 have hmost:=hvl.2.1
 have hgl:=hst.lt
 have hmg:=hst.le
 have bX:=(Br w.heap.size w).alloc (o:=.cells #[.int .i64 4,.bool false,.int .i64 0,.string ⟨#[]⟩,.slice a1 l1 c1,.slice a2 its.length c2] 28) (Lr _)
 have kX:=Hn w (.cells #[.int .i64 4,.bool false,.int .i64 0,.string ⟨#[]⟩,.slice a1 l1 c1,.slice a2 its.length c2] 28)
 have fX:=WFr.of_below (TB:=5) (g:=g) bX (Nat.le_of_lt hgl)
 have stX:=hst.below bX
 have hbX:B≤(w.alloc (.cells #[.int .i64 4,.bool false,.int .i64 0,.string ⟨#[]⟩,.slice a1 l1 c1,.slice a2 its.length c2] 28)).heap.size:=Nat.le_trans hB bX.size
 generalize hwX:w.alloc (.cells #[.int .i64 4,.bool false,.int .i64 0,.string ⟨#[]⟩,.slice a1 l1 c1,.slice a2 its.length c2] 28)=wX at bX kX fX stX hbX
 have PO:=Hh (wput_any ⟨#[91]⟩ wX stX (by show l.length+1≤_;omega) hbX)
 have H:=Hh his
 have HN:=Hh hns
 have HS:=Hh hS
 have HV:=Hh hvl
 have HNL:=Hh hnl
 have HT:=Hh hT
 have HP:=Hh hP
 have HI:=Hh IH
 have HLT:=Hh hLt
 have FX:=Hh fX
 have KX:=Hh kX
 have hng:w.heap.size ≠ g:=by omega
 clear his hns hS hvl hnl hT hP IH hst hLt fX kX stX hbX bX hv hn
 go_enter Tryz.func217,Tryz.ntmps217
 go_upto_region 1 with fail
 go_upto_region 2 with ((with_reducible refine (PO.out).mono ?_);rintro e w2 ⟨rfl,hst2,hfr2⟩)
 clear hwX
 have k2:=hfr2.2 _ _ hng KX.out node_ne_u8
 have c2x:=six_of k2
 clear k2
 have S2:=Hh hst2
 have F2:=Hh hfr2
 clear hst2 hfr2
 go_upto_region 3 with fail
 clear c2x
 go_loopw [16] (fun i wr=>∃ (j:Nat) (l':List UInt8),i=.int .i64 j∧j≤its.length∧WStJ B wr g m l'∧Out l (91::sepL (P.take j)) l'∧l'.length≤900000+d∧WFr 5 g wX wr) (fun i _=>its.length - (intOf i).toNat)
 case atStart=>exact ⟨0,_,rfl,Nat.zero_le _,S2.out,.inl rfl,by rw [Lg];show l.length+1≤_;omega,F2.out⟩
 case round=>
  obtain ⟨j,l',rfl,hj,hst,hout,hlen,hfr⟩:=hrel
  have hBr:B≤wr.heap.size:=Nat.le_trans hB (Nat.le_trans FX.out.1.size hfr.1.size)
  have hfw:=FX.out.trans hfr
  have HLr:=Hh (HLT.out.same (hfw.1.block m hmg))
  have HTr:=Hh (HT.out.on hfw.1)
  by_cases hlt:j<its.length
  ·have hlt':(j:Int)<(its.length:Int):=by omega
   have hj0:(0:Int)≤(j:Int):=by omega
   obtain ⟨-,-,-,b,off,y,a3,l3,c3,a4,l4,c4,rfl,hSb,hx,hnd,k0,k1,k2,k3,k4,k5⟩:=H.out.at hlt
   have hbg:=HS.out b hSb
   have q0:=(hfw.1.cell (p:=⟨b,off+j * 6,none⟩) hbg).trans k0
   have q1:=(hfw.1.cell (p:=⟨b,off+j * 6+1,none⟩) hbg).trans k1
   have q2:=(hfw.1.cell (p:=⟨b,off+j * 6+2,none⟩) hbg).trans k2
   have q3:=(hfw.1.cell (p:=⟨b,off+j * 6+3,none⟩) hbg).trans k3
   have q4:=(hfw.1.cell (p:=⟨b,off+j * 6+4,none⟩) hbg).trans k4
   have q5:=(hfw.1.cell (p:=⟨b,off+j * 6+5,none⟩) hbg).trans k5
   clear k0 k1 k2 k3 k4 k5
   have hyv:=HV.out.1 y (List.mem_of_getElem? hx)
   have hyn:=HNL.out.2 y (List.mem_of_getElem? hx)
   have hPj:P[j]?=some (writeN d y):=by rw [HP.out,List.getElem?_map,hx];rfl
   have hnx:=sepL_take_succ hPj
   have bA:=(Br wr.heap.size wr).alloc (o:=.cells #[.int .i64 y.kind,.bool y.bool,.int .i64 y.num,.string y.text,.slice a3 l3 c3,.slice a4 l4 c4] 28) (Lr _)
   have kA:=Hn wr (.cells #[.int .i64 y.kind,.bool y.bool,.int .i64 y.num,.string y.text,.slice a3 l3 c3,.slice a4 l4 c4] 28)
   have hgr:=hst.lt
   have fA:=WFr.of_below (TB:=5) (g:=g) bA (Nat.le_of_lt hgr)
   have sA:=hst.below bA
   have hBA:B≤(wr.alloc (.cells #[.int .i64 y.kind,.bool y.bool,.int .i64 y.num,.string y.text,.slice a3 l3 c3,.slice a4 l4 c4] 28)).heap.size:=Nat.le_trans hBr bA.size
   have hny:wr.heap.size ≠ g:=by omega
   have HND:=Hh hnd
   have HX:=Hh hx
   have HOUT:=Hh hout
   have HNX:=Hh hnx
   have HFR:=Hh hfr
   have HFW:=Hh hfw
   clear hnd hx hout hnx hfr hPj hst
   go_upto_region 5 with fail
   clear q0 q1 q2 q3 q4 q5
   generalize wr.alloc (.cells #[.int .i64 y.kind,.bool y.bool,.int .i64 y.num,.string y.text,.slice a3 l3 c3,.slice a4 l4 c4] 28)=wa at bA kA fA sA hBA ⊢
   have EXC:=Hh (wexc_any wa sA)
   have KA:=Hh kA
   have FA:=Hh fA
   have SA:=Hh sA
   clear bA kA fA sA
   by_cases hov:65536<l'.length
   ·rw [decide_eq_true hov] at EXC
    go_wp2_with (go_at_call 194;(with_reducible refine (EXC.out).mono ?_);rintro e w3 ⟨rfl,rfl⟩)
    go_end0
    exact ⟨rfl,l',SA.out,HOUT.out.cut hov (sepL_open_le P j 91 93),by omega,HFW.out.trans FA.out⟩
   ·rw [decide_eq_false hov] at EXC
    have hl65:l'.length≤65536:=by omega
    go_upto_if 24 with ((with_reducible refine (EXC.out).mono ?_);rintro e w3 ⟨rfl,rfl⟩)
    go_cut [] from 24 to 42 (fun wx=>WStJ B wx g m (l'++(if j=0 then [] else [44]))∧WFr 5 g wa wx)
    case first=>
     by_cases hj1:0<j
     ·have hj1':(0:Int)<(j:Int):=by omega
      have PC:=Hh (wput_any ⟨#[44]⟩ wa SA.out (by show l'.length+1≤_;omega) hBA)
      go_wp2_with (go_at_call 215;(with_reducible refine (PC.out).mono ?_);rintro e w4 ⟨rfl,hst4,hfr4⟩)
      go_meet
      case rel=>exact ⟨by rw [if_neg (by omega)];exact hst4,hfr4⟩
     ·have hj1':¬ (0:Int)<(j:Int):=by omega
      go_wp2
      go_meet
      case rel=>exact ⟨by rw [if_pos (by omega),List.append_nil];exact SA.out,WFr.refl _ _ _⟩
    case rest=>
     obtain ⟨hst5,hfr5⟩:=hcut
     obtain ⟨l5,hl5⟩:∃l5,l5=l'++(if j=0 then [] else [44]):=⟨_,rfl⟩
     rw [←hl5] at hst5
     have hl5n:l5.length≤65537:=by
      rw [hl5,Lg]
      have:(if j=0 then ([]:List UInt8) else [44]).length≤1:=by split <;> simp
      omega
     have hf5:=FA.out.trans hfr5
     have kx5:=six_of ((HFR.out.trans hf5).2 _ _ hng KX.out node_ne_u8)
     have ky5:=hfr5.2 _ _ hny KA.out node_ne_u8
     have hB5:B≤wc.heap.size:=Nat.le_trans hBA hfr5.1.size
     have HF5:=Hh hf5
     have HL5:=Hh hl5
     have HFR5:=Hh hfr5
     clear hf5 hl5 hfr5 EXC
     have ky7:=six_of ky5
     have N7:=Hh (HI.out D S _ y wc B g m _ hst5 (HLr.out.same (HF5.out.1.block m hmg)) hB5 (by omega) (HND.out.same fun b hb=>(HF5.out.1.block b (HS.out b hb)).trans (HFW.out.1.block b (HS.out b hb))) HS.out hyv hyn (HTr.out.on HF5.out.1))
     have HFA:=HF5
     clear hst5 ky5
     go_wp2_with (go_at_call 193;(with_reducible refine (N7.out).mono ?_);rintro e w8 ⟨rfl,l8,hst8,hout8,hlen8,hfr8⟩)
     go_roundw
     case rel=>
      refine ⟨j+1,l8,by go_num,by omega,hst8,?_,hlen8,HFR.out.trans (HFA.out.trans hfr8)⟩
      have h1:Out l (91::sepL (P.take j)) l':=HOUT.out
      have h2:Out l' ((if j=0 then [] else [44])++writeN d y) l8:=by
       rcases hout8 with e8 | ⟨h8,h9⟩
       ·exact .inl (by rw [e8,HL5.out];simp)
       ·refine .inr ⟨h8,?_⟩
        simp only [HL5.out,Lg,List.length_cons,List.length_nil,ByteArray.size] at h9 ⊢
        omega
      have h3:=h1.more hov h2
      rw [HNX.out]
      exact h3
     case measure=>simp [intOf];omega
  ·have hlt':¬ (j:Int)<(its.length:Int):=by omega
   have hPl:P.length≤its.length:=by rw [HP.out];simp [List.length_zipWith];try omega
   rw [List.take_of_length_le (by omega)] at hout
   have PC:=Hh (wput_any ⟨#[93]⟩ wr hst (by show l'.length+1≤_;have:=hlen;omega) hBr)
   have HFW:=Hh hfw
   have HOUT:=Hh hout
   clear hout hst hfr hfw
   go_wp2_with (go_at_call 215;(with_reducible refine (PC.out).mono ?_);rintro e w4 ⟨rfl,hst4,hfr4⟩)
   go_end0
   refine ⟨rfl,l'++[93],hst4,HOUT.out.push [93],by rw [Lg];show l'.length+1≤_;omega,HFW.out.trans hfr4⟩
theorem items5_any {d:Nat} (hd:d<99000) (IH:NodeWAt d) {D:Nat} {S:Nat→Prop} (a1:Option Addr) (l1 c1:Nat) (a2:Option Addr) (l2 c2:Nat) (ns:List ByteArray) (its:List ND) (w:World) {B g m:Nat} {l:List UInt8} (hst:WStJ B w g m l) (hLt:Letters w m) (hB:B≤w.heap.size) (hl:l.length≤460000)
 (hns:StrsIn S w (.slice a1 l1 c1) ns) (his:NodesIn (NodeIn D S w) S w (.slice a2 l2 c2) its) (hS:∀b,S b→b<g) (hv:validN (d+1) (.mk 5 false 0 ⟨#[]⟩ ns its)=true) (hn:numsB (d+1) (.mk 5 false 0 ⟨#[]⟩ ns its)=true) (hT:ITb g w) (hlen2:ns.length=its.length) :
 Calls Tryz.prog 217 #[.pointer (some ⟨g,0,none⟩),.agg #[.int .i64 5,.bool false,.int .i64 0,.string ⟨#[]⟩,.slice a1 l1 c1,.slice a2 l2 c2],.string ⟨#[123]⟩,.string ⟨#[125]⟩] w (NPost B g m (d+1) l (writeN (d+1) (.mk 5 false 0 ⟨#[]⟩ ns its)) w):=by
 have hnl:=numsB_parts hn
 have hvl:=validN_parts hv
 simp only [ND.kind,ND.bool,ND.num,ND.text,ND.names,ND.items] at hnl hvl
 rw [writeN_5]
 obtain ⟨P,hP⟩:∃P,P=List.zipWith (fun s y=>quoteL s.data.toList++58::writeN d y) ns its:=⟨_,rfl⟩
 rw [←hP]
 obtain ⟨ai,ci,ei,hi1,hi2,-⟩:=id his
 have hl2:l2=its.length:=by cases ei;rfl
 subst hl2
 clear ei
 have hmost:=hvl.2.1
 have hl1:l1=ns.length:=by obtain ⟨_,_,e,_⟩:=id hns;cases e;rfl
 have HL1:=Hh hl1
 have HLN:=Hh hlen2
 clear hl1 hlen2
 have hgl:=hst.lt
 have hmg:=hst.le
 have bX:=(Br w.heap.size w).alloc (o:=.cells #[.int .i64 5,.bool false,.int .i64 0,.string ⟨#[]⟩,.slice a1 l1 c1,.slice a2 its.length c2] 28) (Lr _)
 have kX:=Hn w (.cells #[.int .i64 5,.bool false,.int .i64 0,.string ⟨#[]⟩,.slice a1 l1 c1,.slice a2 its.length c2] 28)
 have fX:=WFr.of_below (TB:=5) (g:=g) bX (Nat.le_of_lt hgl)
 have stX:=hst.below bX
 have hbX:B≤(w.alloc (.cells #[.int .i64 5,.bool false,.int .i64 0,.string ⟨#[]⟩,.slice a1 l1 c1,.slice a2 its.length c2] 28)).heap.size:=Nat.le_trans hB bX.size
 generalize hwX:w.alloc (.cells #[.int .i64 5,.bool false,.int .i64 0,.string ⟨#[]⟩,.slice a1 l1 c1,.slice a2 its.length c2] 28)=wX at bX kX fX stX hbX
 have PO:=Hh (wput_any ⟨#[123]⟩ wX stX (by show l.length+1≤_;omega) hbX)
 have H:=Hh his
 have HN:=Hh hns
 have HS:=Hh hS
 have HV:=Hh hvl
 have HNL:=Hh hnl
 have HT:=Hh hT
 have HP:=Hh hP
 have HI:=Hh IH
 have HLT:=Hh hLt
 have FX:=Hh fX
 have KX:=Hh kX
 have hng:w.heap.size ≠ g:=by omega
 clear his hns hS hvl hnl hT hP IH hst hLt fX kX stX hbX bX hv hn
 go_enter Tryz.func217,Tryz.ntmps217
 go_upto_region 1 with fail
 go_upto_region 2 with ((with_reducible refine (PO.out).mono ?_);rintro e w2 ⟨rfl,hst2,hfr2⟩)
 clear hwX
 have k2:=hfr2.2 _ _ hng KX.out node_ne_u8
 have c2x:=six_of k2
 clear k2
 have S2:=Hh hst2
 have F2:=Hh hfr2
 clear hst2 hfr2
 go_upto_region 3 with fail
 clear c2x
 go_loopw [16] (fun i wr=>∃ (j:Nat) (l':List UInt8),i=.int .i64 j∧j≤its.length∧WStJ B wr g m l'∧Out l (123::sepL (P.take j)) l'∧l'.length≤900000+d∧WFr 5 g wX wr) (fun i _=>its.length - (intOf i).toNat)
 case atStart=>exact ⟨0,_,rfl,Nat.zero_le _,S2.out,.inl rfl,by rw [Lg];show l.length+1≤_;omega,F2.out⟩
 case round=>
  obtain ⟨j,l',rfl,hj,hst,hout,hlen,hfr⟩:=hrel
  have hBr:B≤wr.heap.size:=Nat.le_trans hB (Nat.le_trans FX.out.1.size hfr.1.size)
  have hfw:=FX.out.trans hfr
  have HLr:=Hh (HLT.out.same (hfw.1.block m hmg))
  have HTr:=Hh (HT.out.on hfw.1)
  by_cases hlt:j<its.length
  ·have hlt':(j:Int)<(its.length:Int):=by omega
   have hj0:(0:Int)≤(j:Int):=by omega
   obtain ⟨-,-,-,b,off,y,a3,l3,c3,a4,l4,c4,rfl,hSb,hx,hnd,k0,k1,k2,k3,k4,k5⟩:=H.out.at hlt
   have hbg:=HS.out b hSb
   have q0:=(hfw.1.cell (p:=⟨b,off+j * 6,none⟩) hbg).trans k0
   have q1:=(hfw.1.cell (p:=⟨b,off+j * 6+1,none⟩) hbg).trans k1
   have q2:=(hfw.1.cell (p:=⟨b,off+j * 6+2,none⟩) hbg).trans k2
   have q3:=(hfw.1.cell (p:=⟨b,off+j * 6+3,none⟩) hbg).trans k3
   have q4:=(hfw.1.cell (p:=⟨b,off+j * 6+4,none⟩) hbg).trans k4
   have q5:=(hfw.1.cell (p:=⟨b,off+j * 6+5,none⟩) hbg).trans k5
   clear k0 k1 k2 k3 k4 k5
   have hyv:=HV.out.1 y (List.mem_of_getElem? hx)
   have hyn:=HNL.out.2 y (List.mem_of_getElem? hx)
   have hjn:j<ns.length:=by have:=HLN.out;omega
   obtain ⟨-,-,-,bn,on,rfl,hSn,hcn,hsn⟩:=HN.out.at hjn
   obtain ⟨sn,hse⟩:∃s,s=ns[j]:=⟨_,rfl⟩
   have hnj:ns[j]?=some sn:=by rw [hse];exact List.getElem?_eq_getElem hjn
   rw [←hse] at hcn
   have hPj:P[j]?=some (quoteL sn.data.toList++58::writeN d y):=by rw [HP.out];exact zip_at hnj hx
   have hsz:=textOk_size (HV.out.2.2.2 sn (List.mem_of_getElem? hnj))
   have hsz':sn.size≤65536:=by have h:sn.data.toList.length=sn.size:=(by rw [Array.length_toList];rfl);omega
   have hql:=quoteL_len sn.data.toList
   have hlt1:(j:Int)<(l1:Int):=by have:=HL1.out;have:=HLN.out;omega
   have hbn:=HS.out bn hSn
   clear hse hnj
   have hnx:=sepL_take_succ hPj
   have bA:=(Br wr.heap.size wr).alloc (o:=.cells #[.int .i64 y.kind,.bool y.bool,.int .i64 y.num,.string y.text,.slice a3 l3 c3,.slice a4 l4 c4] 28) (Lr _)
   have kA:=Hn wr (.cells #[.int .i64 y.kind,.bool y.bool,.int .i64 y.num,.string y.text,.slice a3 l3 c3,.slice a4 l4 c4] 28)
   have hgr:=hst.lt
   have fA:=WFr.of_below (TB:=5) (g:=g) bA (Nat.le_of_lt hgr)
   have sA:=hst.below bA
   have hBA:B≤(wr.alloc (.cells #[.int .i64 y.kind,.bool y.bool,.int .i64 y.num,.string y.text,.slice a3 l3 c3,.slice a4 l4 c4] 28)).heap.size:=Nat.le_trans hBr bA.size
   have hny:wr.heap.size ≠ g:=by omega
   have HND:=Hh hnd
   have HX:=Hh hx
   have HOUT:=Hh hout
   have HNX:=Hh hnx
   have HFR:=Hh hfr
   have HFW:=Hh hfw
   clear hnd hx hout hnx hfr hPj hst
   go_upto_region 5 with fail
   clear q0 q1 q2 q3 q4 q5
   generalize wr.alloc (.cells #[.int .i64 y.kind,.bool y.bool,.int .i64 y.num,.string y.text,.slice a3 l3 c3,.slice a4 l4 c4] 28)=wa at bA kA fA sA hBA ⊢
   have EXC:=Hh (wexc_any wa sA)
   have KA:=Hh kA
   have FA:=Hh fA
   have SA:=Hh sA
   clear bA kA fA sA
   by_cases hov:65536<l'.length
   ·rw [decide_eq_true hov] at EXC
    go_wp2_with (go_at_call 194;(with_reducible refine (EXC.out).mono ?_);rintro e w3 ⟨rfl,rfl⟩)
    go_end0
    exact ⟨rfl,l',SA.out,HOUT.out.cut hov (sepL_open_le P j 123 125),by omega,HFW.out.trans FA.out⟩
   ·rw [decide_eq_false hov] at EXC
    have hl65:l'.length≤65536:=by omega
    go_upto_if 24 with ((with_reducible refine (EXC.out).mono ?_);rintro e w3 ⟨rfl,rfl⟩)
    go_cut [] from 24 to 42 (fun wx=>WStJ B wx g m (l'++(if j=0 then [] else [44]))∧WFr 5 g wa wx)
    case first=>
     by_cases hj1:0<j
     ·have hj1':(0:Int)<(j:Int):=by omega
      have PC:=Hh (wput_any ⟨#[44]⟩ wa SA.out (by show l'.length+1≤_;omega) hBA)
      go_wp2_with (go_at_call 215;(with_reducible refine (PC.out).mono ?_);rintro e w4 ⟨rfl,hst4,hfr4⟩)
      go_meet
      case rel=>exact ⟨by rw [if_neg (by omega)];exact hst4,hfr4⟩
     ·have hj1':¬ (0:Int)<(j:Int):=by omega
      go_wp2
      go_meet
      case rel=>exact ⟨by rw [if_pos (by omega),List.append_nil];exact SA.out,WFr.refl _ _ _⟩
    case rest=>
     obtain ⟨hst5,hfr5⟩:=hcut
     obtain ⟨l5,hl5⟩:∃l5,l5=l'++(if j=0 then [] else [44]):=⟨_,rfl⟩
     rw [←hl5] at hst5
     have hl5n:l5.length≤65537:=by
      rw [hl5,Lg]
      have:(if j=0 then ([]:List UInt8) else [44]).length≤1:=by split <;> simp
      omega
     have hf5:=FA.out.trans hfr5
     have kx5:=six_of ((HFR.out.trans hf5).2 _ _ hng KX.out node_ne_u8)
     have ky5:=hfr5.2 _ _ hny KA.out node_ne_u8
     have hB5:B≤wc.heap.size:=Nat.le_trans hBA hfr5.1.size
     have HF5:=Hh hf5
     have HL5:=Hh hl5
     have HFR5:=Hh hfr5
     clear hf5 hl5 hfr5 EXC
     have Q5:=Hh (quoted_any sn wc hst5 (HLr.out.same (HF5.out.1.block m hmg)) (by omega) hB5)
     have cn5:=(HF5.out.1.cell (p:=⟨bn,on+j,none⟩) hbn).trans ((HFW.out.1.cell (p:=⟨bn,on+j,none⟩) hbn).trans hcn)
     have KY5:=Hh ky5
     clear ky5 hcn
     go_upto_region 10 with ((with_reducible refine (Q5.out).mono ?_);rintro e w6 ⟨rfl,hst6,hfr6⟩)
     have hq6:(l5++quoteL sn.data.toList).length≤460000 - 1:=by rw [Lg];omega
     have P7:=Hh (wput_any ⟨#[58]⟩ w6 hst6 (by show (l5++quoteL sn.data.toList).length+1≤_;omega) (Nat.le_trans hB5 hfr6.1.size))
     have HFR6:=Hh hfr6
     clear hst6 hfr6 kx5 cn5
     go_upto_region 11 with ((with_reducible refine (P7.out).mono ?_);rintro e w7 ⟨rfl,hst7,hfr7⟩)
     have hf7:=HFR6.out.trans hfr7
     have ky7:=six_of (hf7.2 _ _ hny KY5.out node_ne_u8)
     have hfa:=HF5.out.trans hf7
     have N7:=Hh (HI.out D S _ y w7 B g m _ hst7 (HLr.out.same (hfa.1.block m hmg)) (Nat.le_trans hB5 hf7.1.size) (by rw [Lg];show (l5++quoteL sn.data.toList).length+1≤_;omega) (HND.out.same fun b hb=>(hfa.1.block b (HS.out b hb)).trans (HFW.out.1.block b (HS.out b hb))) HS.out hyv hyn (HTr.out.on hfa.1))
     have HFA:=Hh hfa
     clear hst7 hfr7 hf7 hfa
     go_wp2_with (go_at_call 193;(with_reducible refine (N7.out).mono ?_);rintro e w8 ⟨rfl,l8,hst8,hout8,hlen8,hfr8⟩)
     go_roundw
     case rel=>
      refine ⟨j+1,l8,by go_num,by omega,hst8,?_,hlen8,HFR.out.trans (HFA.out.trans hfr8)⟩
      have h1:Out l (123::sepL (P.take j)) l':=HOUT.out
      have h2:Out l' ((if j=0 then [] else [44])++(quoteL sn.data.toList++58::writeN d y)) l8:=by
       rcases hout8 with e8 | ⟨h8,h9⟩
       ·exact .inl (by rw [e8,HL5.out];simp)
       ·refine .inr ⟨h8,?_⟩
        simp only [HL5.out,Lg,List.length_cons,List.length_nil,ByteArray.size] at h9 ⊢
        omega
      have h3:=h1.more hov h2
      rw [HNX.out]
      exact h3
     case measure=>simp [intOf];omega
  ·have hlt':¬ (j:Int)<(its.length:Int):=by omega
   have hPl:P.length≤its.length:=by rw [HP.out];simp [List.length_zipWith];try omega
   rw [List.take_of_length_le (by omega)] at hout
   have PC:=Hh (wput_any ⟨#[125]⟩ wr hst (by show l'.length+1≤_;have:=hlen;omega) hBr)
   have HFW:=Hh hfw
   have HOUT:=Hh hout
   clear hout hst hfr hfw
   go_wp2_with (go_at_call 215;(with_reducible refine (PC.out).mono ?_);rintro e w4 ⟨rfl,hst4,hfr4⟩)
   go_end0
   refine ⟨rfl,l'++[125],hst4,HOUT.out.push [125],by rw [Lg];show l'.length+1≤_;omega,HFW.out.trans hfr4⟩
theorem nodew_step {d:Nat} (hd:d<99000) (IH:NodeWAt d):NodeWAt (d+1):=by
 intro D S cs x w B g m l hst hLt hB hl h hS hv hn hT
 obtain ⟨a1,l1,c1,a2,l2,c2,rfl⟩:=h.slices
 have hnl:=numsB_parts hn
 have hvl:=validN_parts hv
 cases D with
 | zero=>exact h.elim
 | succ D=>
 obtain ⟨vn,vi,e,ht,hns,his⟩:=h
 simp only [List.cons.injEq,and_true,true_and] at e
 obtain ⟨rfl,rfl⟩:=e
 have hk:=kinds hv
 obtain ⟨k,b,n,t,ns,its⟩:=x
 simp only [ND.kind,ND.bool,ND.num,ND.text,ND.names,ND.items,nd0,ND.mk.injEq,true_and,and_true] at hk ht hns his hnl hvl ⊢
 have hgl:=hst.lt
 have hmg:=hst.le
 have bX:=(Br w.heap.size w).alloc (o:=.cells #[.int .i64 k,.bool b,.int .i64 n,.string t,.slice a1 l1 c1,.slice a2 l2 c2] 28) (Lr _)
 have fX:=WFr.of_below (TB:=5) (g:=g) bX (Nat.le_of_lt hgl)
 have stX:=hst.below bX
 have hbX:B≤(w.alloc (.cells #[.int .i64 k,.bool b,.int .i64 n,.string t,.slice a1 l1 c1,.slice a2 l2 c2] 28)).heap.size:=Nat.le_trans hB bX.size
 have hTX:=hT.on fX.1
 have hLX:Letters (w.alloc (.cells #[.int .i64 k,.bool b,.int .i64 n,.string t,.slice a1 l1 c1,.slice a2 l2 c2] 28)) m:=hLt.same (fX.1.block m hmg)
 have hnsX:=hns.same (w':=w.alloc (.cells #[.int .i64 k,.bool b,.int .i64 n,.string t,.slice a1 l1 c1,.slice a2 l2 c2] 28)) fun q hq=>fX.1.block q (hS q hq)
 have hisX:=his.same (w':=w.alloc (.cells #[.int .i64 k,.bool b,.int .i64 n,.string t,.slice a1 l1 c1,.slice a2 l2 c2] 28)) (R':=NodeIn D S (w.alloc (.cells #[.int .i64 k,.bool b,.int .i64 n,.string t,.slice a1 l1 c1,.slice a2 l2 c2] 28))) (fun q hq=>fX.1.block q (hS q hq)) fun cs y q=>q.same fun q hq=>fX.1.block q (hS q hq)
 have FX:=Hh fX
 rcases hk with ⟨rfl,rfl,rfl,rfl,rfl,rfl⟩ | ⟨rfl,rfl,rfl,rfl,rfl⟩ | ⟨rfl,rfl,rfl,rfl,rfl⟩ | ⟨rfl,rfl,rfl,rfl,rfl⟩ | ⟨rfl,rfl,rfl,rfl,rfl⟩ | ⟨⟨rfl,rfl,rfl,rfl⟩,hlen2⟩
 ·have P:=Hh (wput_any ⟨#[110,117,108,108]⟩ _ stX (by show l.length+4≤_;omega) hbX)
  clear hnsX hisX hns his hnl hvl hv hn hT IH ht hst hLt hTX hLX fX bX stX hbX
  go_enter Tryz.func193,Tryz.ntmps193
  go_wp2_with (go_at_call 215;(with_reducible refine (P.out).mono ?_);rintro e w2 ⟨rfl,hst2,hfr2⟩)
  go_end0
  exact ⟨rfl,_,hst2,.inl rfl,by rw [Lg];show l.length+4≤_;omega,FX.out.trans hfr2⟩
 ·have F:=Hh (fun wx=>fmtb_any b wx)
  have P:=Hh (fun s hs=>wput_any s _ stX hs hbX)
  clear hnsX hisX hns his hnl hvl hv hn hT IH ht hst hLt hTX hLX fX bX stX hbX
  cases b
  ·simp only [Bool.false_eq_true,if_false,if_true] at F
   have P':=Hh (P.out ⟨#[102,97,108,115,101]⟩ (show l.length+5≤1000000 by omega))
   go_enter Tryz.func193,Tryz.ntmps193
   go_wp2_with (first | (go_at_call 129;(with_reducible refine (F.out _).mono ?_);rintro e w2 ⟨rfl,rfl⟩) | (go_at_call 215;(with_reducible refine (P'.out).mono ?_);rintro e w2 ⟨rfl,hst2,hfr2⟩))
   go_end0
   exact ⟨rfl,_,hst2,.inl rfl,by rw [Lg];show l.length+5≤_;omega,FX.out.trans hfr2⟩
  ·simp only [Bool.false_eq_true,if_false,if_true] at F
   have P':=Hh (P.out ⟨#[116,114,117,101]⟩ (show l.length+4≤1000000 by omega))
   go_enter Tryz.func193,Tryz.ntmps193
   go_wp2_with (first | (go_at_call 129;(with_reducible refine (F.out _).mono ?_);rintro e w2 ⟨rfl,rfl⟩) | (go_at_call 215;(with_reducible refine (P'.out).mono ?_);rintro e w2 ⟨rfl,hst2,hfr2⟩))
   go_end0
   exact ⟨rfl,_,hst2,.inl rfl,by rw [Lg];show l.length+4≤_;omega,FX.out.trans hfr2⟩
 ·obtain ⟨hw,-⟩:=hnl
  unfold wideI at hw
  rw [Bool.and_eq_true,decide_eq_true_eq,decide_eq_true_eq] at hw
  have hil:=Lib.itoa_length_le n hw.1 hw.2
  have F:=Hh (fun wx h=>itoa_any n hw.1 hw.2 wx h)
  have HT:=Hh hTX.here
  obtain ⟨s,hs⟩:∃s:ByteArray,s=⟨(Lib.itoa n).toArray⟩:=⟨_,rfl⟩
  rw [←hs] at F
  have hss:s.size≤100:=by rw [hs,ba_size];omega
  have HSL:Hid (s.data.toList=Lib.itoa n):=Hh (by rw [hs])
  have P:=Hh (fun (w2:World) (hb:Below (w.alloc (.cells #[.int .i64 2,.bool false,.int .i64 n,.string ⟨#[]⟩,.slice a1 l1 c1,.slice a2 l2 c2] 28)).heap.size (w.alloc (.cells #[.int .i64 2,.bool false,.int .i64 n,.string ⟨#[]⟩,.slice a1 l1 c1,.slice a2 l2 c2] 28)) w2)=>wput_any s w2 (stX.below hb) (show l.length+s.size≤1000000 by omega) (Nat.le_trans hbX hb.size))
  have hgX:g≤(w.alloc (.cells #[.int .i64 2,.bool false,.int .i64 n,.string ⟨#[]⟩,.slice a1 l1 c1,.slice a2 l2 c2] 28)).heap.size:=Nat.le_of_lt stX.lt
  clear hnsX hisX hns his hvl hv hn hT IH ht hst hLt hTX hLX fX bX stX hbX hs
  go_enter Tryz.func193,Tryz.ntmps193
  go_wp2_with (first | (go_at_call 130;(with_reducible refine (F.out _ HT.out).mono ?_);rintro e w2 ⟨rfl,hb2⟩) | (go_at_call 215;(with_reducible refine (P.out _ hb2).mono ?_);rintro e w3 ⟨rfl,hst3,hfr3⟩))
  go_end0
  refine ⟨rfl,_,hst3,.inl (by rw [HSL.out];rfl),?_,FX.out.trans ((WFr.of_below hb2 hgX).trans hfr3)⟩
  rw [Lg,HSL.out];omega
 ·have hs:=textOk_size hvl.2.2.1
  have hss:t.data.toList.length=t.size:=by rw [Array.length_toList];rfl
  have P:=Hh (quoted_any t _ stX hLX (by omega) hbX)
  have hql:=quoteL_len t.data.toList
  clear hnsX hisX hns his hnl hvl hv hn hT IH ht hst hLt hTX hLX fX bX stX hbX
  go_enter Tryz.func193,Tryz.ntmps193
  go_wp2_with (go_at_call 216;(with_reducible refine (P.out).mono ?_);rintro e w2 ⟨rfl,hst2,hfr2⟩)
  go_end0
  exact ⟨rfl,_,hst2,.inl rfl,by rw [Lg];omega,FX.out.trans hfr2⟩
 ·have P:=Hh (items4_any (by omega) IH a1 l1 c1 a2 l2 c2 [] its _ stX hLX hbX hl hnsX hisX hS hv hn hTX)
  clear hnsX hisX hns his hnl hvl hv hn hT IH ht hst hLt hTX hLX fX bX stX hbX
  have ck:=six_of (Hn w (.cells #[.int .i64 4,.bool false,.int .i64 0,.string ⟨#[]⟩,.slice a1 l1 c1,.slice a2 l2 c2] 28))
  go_enter Tryz.func193,Tryz.ntmps193
  go_wp2_with (go_at_call 217;(with_reducible refine (P.out).mono ?_);rintro e w2 ⟨rfl,l2',hst2,hout2,hlen2,hfr2⟩)
  go_end0
  exact ⟨rfl,l2',hst2,hout2,hlen2,FX.out.trans hfr2⟩
 ·have P:=Hh (items5_any (by omega) IH a1 l1 c1 a2 l2 c2 ns its _ stX hLX hbX hl hnsX hisX hS hv hn hTX hlen2)
  clear hnsX hisX hns his hnl hvl hv hn hT IH ht hst hLt hTX hLX fX bX stX hbX hlen2
  have ck:=six_of (Hn w (.cells #[.int .i64 5,.bool false,.int .i64 0,.string ⟨#[]⟩,.slice a1 l1 c1,.slice a2 l2 c2] 28))
  go_enter Tryz.func193,Tryz.ntmps193
  go_wp2_with (go_at_call 217;(with_reducible refine (P.out).mono ?_);rintro e w2 ⟨rfl,l2',hst2,hout2,hlen2,hfr2⟩)
  go_end0
  exact ⟨rfl,l2',hst2,hout2,hlen2,FX.out.trans hfr2⟩
theorem nodew_zero:NodeWAt 0:=by
 intro D S cs x w B g m l hst hLt hB hl h hS hv hn hT
 cases hv
theorem nodew_any:∀d,d<99000→NodeWAt d
 | 0,_=>nodew_zero
 | d+1,h=>nodew_step (by omega) (nodew_any d (by omega))
end Go.Proofs.YtcklddldejejcaaGreatDoor