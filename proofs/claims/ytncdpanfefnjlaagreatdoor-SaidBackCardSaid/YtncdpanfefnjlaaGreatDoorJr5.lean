import Derived.Test.YtncdpanfefnjlaaGreatDoorCwp
import Derived.Test.YtncdpanfefnjlaaGreatDoorNnode
set_option linter.unusedVariables false
set_option linter.unusedSimpArgs false
set_option maxHeartbeats 3200000
set_option maxRecDepth 100000
namespace Go.Proofs.YtncdpanfefnjlaaGreatDoor
open Go.Proofs.Tryz
theorem DL (B g:Nat):∀n:Nat,1≤n→n<100→∀w:World,aZ B w g→Calls prog 20 #[.pointer (some ⟨g,0,none⟩),Iz (n:Int)] w fun e w'=>oX n w e w'∧w.grownBy w' (some g)∧aZ B w' g
 | 0,h,_,_,_=>absurd h (by decide)
 | n+1,h1,h2,w,hd=>PQ B g (n+1) w h1 h2 hd fun h wx hx=>by
  have:=DL B g n (by omega) (by omega) wx hx
  rw [show ((n+1:Nat):Int) - 1=(n:Int) by omega,Nat.add_sub_cancel]
  exact this
theorem WW (B g n:Nat) (z:Int) (hz:(n:Int)=z) (h1:2≤n) (h2:n<100) (w:World) (hd:aZ B w g):Calls prog 7 #[.pointer (some ⟨g,0,none⟩),Iz z] w fun e w'=>tB n w e w'∧w.grownBy w' (some g)∧aZ B w' g:=
 hz ▸ aBi B g n w h1 h2 hd fun wx hx=>by
  have:=DL B g (n - 1) (by omega) (by omega) wx hx
  rw [show ((n - 1:Nat):Int)=(n:Int) - 1 by omega] at this
  exact this
theorem WX (B g n:Nat) (z:Int) (hz:(n:Int)=z) (h1:2≤n) (h2:n<100) (w:World) (hd:aZ B w g):Calls prog 7 #[.pointer (some ⟨g,0,none⟩),Iz z] w fun e w'=>MQ n w e w'∧w.grownBy w' (some g)∧aZ B w' g:=(WW B g n z hz h1 h2 w hd).mono fun e w' h=>⟨h.1.k,h.2⟩
end Go.Proofs.YtncdpanfefnjlaaGreatDoor
namespace Go.Proofs.YtncdpanfefnjlaaGreatDoor
open Go.Proofs.Tryz
open Go Go.ChangeShapes Go.WideShapes Go.ChangeAt Go.RowKit
theorem rX (P:List (Ub)) (j:Nat) (o c:UInt8):(o::dV (P.take j)).length≤(o::(dV P++[c])).length:=by
 have:=ER P j;rw [Ag,Ag,Lg];omega
def ITb (g : Nat) (w : World) : Prop := Lib.TabBelow prog g w "internal/strconv.uint64pow10" .u64 Lib.pow10Tab
theorem ITb.on {g:Nat} {w w':World} (h:ITb g w) (hb:Below g w w'):ITb g w':=Lib.TabBelow.on h hb
theorem ITb.here {g:Nat} {w:World} (h:ITb g w):BG w:=Lib.TabBelow.here h
def aEd (B g m d:Nat) (l T:Ub) (w:World) (e:Ending) (w':World):Prop:=e=.returned (.tuple #[])∧∃l',rG B w' g m l'∧Out l T l'∧l'.length≤900000+d∧WFr 5 g w w'
def pN (d:Nat):Prop:=∀ (D:Nat) (S:Nat→Prop) (cs:Vl) (x:ND) (w:World) (B g m:Nat) (l:Ub),rG B w g m l→eB w m→B≤w.heap.size→l.length≤460000→aC D S w cs x→(∀b,S b→b<g)→aB d x=true→aO d x=true→ITb g w →
 Calls prog 140 #[.pointer (some ⟨g,0,none⟩),.agg cs.toArray] w (aEd B g m d l (aT d x) w)
theorem iH {cs:Array Value}:∀ (ds:Array Value) (fz:Nat × Nat),Obj.cells cs 28 (0,0) ≠ Obj.cells ds 5 fz:=fun ds fz e=>by simp at e
theorem PT {d:Nat} (hd:d<99000) (IH:pN d) {D:Nat} {S:Nat→Prop} (a1:Option Addr) (l1 c1:Nat) (a2:Option Addr) (l2 c2:Nat) (ns:List Bt) (its:List ND) (w:World) {B g m:Nat} {l:Ub} (hst:rG B w g m l) (hLt:eB w m) (hB:B≤w.heap.size) (hl:l.length≤460000)
 (hns:bE S w (.slice a1 l1 c1) ns) (his:cB (aC D S w) S w (.slice a2 l2 c2) its) (hS:∀b,S b→b<g) (hv:aB (d+1) (.mk 4 false 0 ⟨#[]⟩ [] its)=true) (hn:aO (d+1) (.mk 4 false 0 ⟨#[]⟩ [] its)=true) (hT:ITb g w) :
 Calls prog 162 #[.pointer (some ⟨g,0,none⟩),.agg #[Iz 4,.bool false,Iz 0,.string ⟨#[]⟩,.slice a1 l1 c1,.slice a2 l2 c2],.string ⟨#[91]⟩,.string ⟨#[93]⟩] w (aEd B g m (d+1) l (aT (d+1) (.mk 4 false 0 ⟨#[]⟩ [] its)) w):=by
 have hnl:=cL hn;have hvl:=aX hv;simp only [Nc,ND.kind,ND.bool,ND.num,ND.text,ND.names,ND.items] at hnl hvl;rw [xK];obtain ⟨P,hP⟩:∃P,P=its.map (aT d):=⟨_,rfl⟩;rw [←hP];obtain ⟨ai,ci,ei,hi1,hi2,-⟩:=id his;have hl2:l2=its.length:=by cases ei;rfl
 subst hl2;clear ei;have hmost:=hvl.2.1;have hgl:=hst.lt;have hmg:=hst.le;have bX:=(Br w.heap.size w).alloc (o:=.cells #[Iz 4,.bool false,Iz 0,.string ⟨#[]⟩,.slice a1 l1 c1,.slice a2 its.length c2] 28) (Lr _);have kX:=Hn w (.cells #[Iz 4,.bool false,Iz 0,.string ⟨#[]⟩,.slice a1 l1 c1,.slice a2 its.length c2] 28);have fX:=WFr.of_below (TB:=5) (g:=g) bX (Bo hgl);have stX:=hst.below bX;have hbX:B≤(w.alloc (.cells #[Iz 4,.bool false,Iz 0,.string ⟨#[]⟩,.slice a1 l1 c1,.slice a2 its.length c2] 28)).heap.size:=Ae hB bX.size;generalize hwX:w.alloc (.cells #[Iz 4,.bool false,Iz 0,.string ⟨#[]⟩,.slice a1 l1 c1,.slice a2 its.length c2] 28)=wX at bX kX fX stX hbX;have PO:=Hh (eY ⟨#[91]⟩ wX stX (by show l.length+1≤_;omega) hbX)
 have H:=Hh his;have HN:=Hh hns;have HS:=Hh hS;have HV:=Hh hvl;have HNL:=Hh hnl;have HT:=Hh hT;have HP:=Hh hP;have HI:=Hh IH;have HLT:=Hh hLt;have FX:=Hh fX;have KX:=Hh kX;have hng:w.heap.size ≠ g:=by omega
 clear his hns hS hvl hnl hT hP IH hst hLt fX kX stX hbX bX hv hn
 go_enter func162,ntmps162
 go_upto_region 1 with fail
 go_upto_region 2 with ((with_reducible refine (PO.o).mono ?_);rintro e w2 ⟨rfl,hst2,hfr2⟩)
 clear hwX;have k2:=hfr2.2 _ _ hng KX.o iH;have c2x:=aA k2;clear k2;have S2:=Hh hst2;have F2:=Hh hfr2;clear hst2 hfr2
 go_upto_region 3 with fail
 clear c2x
 go_loopw [16] (fun i wr=>∃ (j:Nat) (l':Ub),i=Iz j∧j≤its.length∧rG B wr g m l'∧Out l (91::dV (P.take j)) l'∧l'.length≤900000+d∧WFr 5 g wX wr) (fun i _=>its.length - (intOf i).toNat)
 case atStart=>exact ⟨0,_,rfl,Ax _,S2.o,.inl rfl,by rw [Lg];show l.length+1≤_;omega,F2.o⟩
 case round=>
  obtain ⟨j,l',rfl,hj,hst,hout,hlen,hfr⟩:=hrel;have hBr:B≤wr.heap.size:=Ae hB (Ae FX.o.1.size hfr.1.size);have hfw:=FX.o.trans hfr;have HLr:=Hh (HLT.o.same (hfw.1.block m hmg));have HTr:=Hh (HT.o.on hfw.1)
  by_cases hlt:j<its.length
  ·have hlt':(j:Int)<(its.length:Int):=by omega
   have hj0:(0:Int)≤(j:Int):=by omega
   obtain ⟨-,-,-,b,off,y,a3,l3,c3,a4,l4,c4,rfl,hSb,hx,hnd,k0,k1,k2,k3,k4,k5⟩:=H.o.at hlt;have hbg:=HS.o b hSb;have q0:=(hfw.1.cell (p:=⟨b,off+j * 6,none⟩) hbg).trans k0;have q1:=(hfw.1.cell (p:=⟨b,off+j * 6+1,none⟩) hbg).trans k1;have q2:=(hfw.1.cell (p:=⟨b,off+j * 6+2,none⟩) hbg).trans k2;have q3:=(hfw.1.cell (p:=⟨b,off+j * 6+3,none⟩) hbg).trans k3;have q4:=(hfw.1.cell (p:=⟨b,off+j * 6+4,none⟩) hbg).trans k4;have q5:=(hfw.1.cell (p:=⟨b,off+j * 6+5,none⟩) hbg).trans k5;clear k0 k1 k2 k3 k4 k5;have hyv:=HV.o.1 y (Aq hx);have hyn:=HNL.o.2 y (Aq hx);have hPj:P[j]?=some (aT d y):=by rw [HP.o,Bc,hx];rfl
   have hnx:=lJ hPj;have bA:=(Br wr.heap.size wr).alloc (o:=.cells #[Iz y.kind,.bool y.bool,Iz y.num,.string y.text,.slice a3 l3 c3,.slice a4 l4 c4] 28) (Lr _);have kA:=Hn wr (.cells #[Iz y.kind,.bool y.bool,Iz y.num,.string y.text,.slice a3 l3 c3,.slice a4 l4 c4] 28);have hgr:=hst.lt;have fA:=WFr.of_below (TB:=5) (g:=g) bA (Bo hgr);have sA:=hst.below bA;have hBA:B≤(wr.alloc (.cells #[Iz y.kind,.bool y.bool,Iz y.num,.string y.text,.slice a3 l3 c3,.slice a4 l4 c4] 28)).heap.size:=Ae hBr bA.size;have hny:wr.heap.size ≠ g:=by omega
   have HND:=Hh hnd;have HX:=Hh hx;have HOUT:=Hh hout;have HNX:=Hh hnx;have HFR:=Hh hfr;have HFW:=Hh hfw;clear hnd hx hout hnx hfr hPj hst
   go_upto_region 5 with fail
   clear q0 q1 q2 q3 q4 q5;generalize wr.alloc (.cells #[Iz y.kind,.bool y.bool,Iz y.num,.string y.text,.slice a3 l3 c3,.slice a4 l4 c4] 28)=wa at bA kA fA sA hBA ⊢;have EXC:=Hh (xR wa sA);have KA:=Hh kA;have FA:=Hh fA;have SA:=Hh sA;clear bA kA fA sA
   by_cases hov:65536<l'.length
   ·rw [An hov] at EXC
    go_wp2_with (go_at_call 141;(with_reducible refine (EXC.o).mono ?_);rintro e w3 ⟨rfl,rfl⟩)
    go_end0
    exact ⟨rfl,l',SA.o,HOUT.o.cut hov (rX P j 91 93),by omega,HFW.o.trans FA.o⟩
   ·rw [Ap hov] at EXC
    have hl65:l'.length≤65536:=by omega
    go_upto_if 24 with ((with_reducible refine (EXC.o).mono ?_);rintro e w3 ⟨rfl,rfl⟩)
    go_cut [] from 24 to 42 (fun wx=>rG B wx g m (l'++(if j=0 then [] else [44]))∧WFr 5 g wa wx)
    case first=>
     by_cases hj1:0<j
     ·have hj1':(0:Int)<(j:Int):=by omega
      have PC:=Hh (eY ⟨#[44]⟩ wa SA.o (by show l'.length+1≤_;omega) hBA)
      go_wp2_with (go_at_call 160;(with_reducible refine (PC.o).mono ?_);rintro e w4 ⟨rfl,hst4,hfr4⟩)
      go_meet
      case rel=>exact ⟨by rw [Af (by omega)];exact hst4,hfr4⟩
     ·have hj1':¬ (0:Int)<(j:Int):=by omega
      go_wp2
      go_meet
      case rel=>exact ⟨by rw [Am (by omega),Bu];exact SA.o,WFr.refl _ _ _⟩
    case rest=>
     obtain ⟨hst5,hfr5⟩:=hcut;obtain ⟨l5,hl5⟩:∃l5,l5=l'++(if j=0 then [] else [44]):=⟨_,rfl⟩
     rw [←hl5] at hst5;have hl5n:l5.length≤65537:=by
      rw [hl5,Lg];have:(if j=0 then ([]:Ub) else [44]).length≤1:=by split <;> simp
      omega
     have hf5:=FA.o.trans hfr5;have kx5:=aA ((HFR.o.trans hf5).2 _ _ hng KX.o iH);have ky5:=hfr5.2 _ _ hny KA.o iH;have hB5:B≤wc.heap.size:=Ae hBA hfr5.1.size;have HF5:=Hh hf5;have HL5:=Hh hl5;have HFR5:=Hh hfr5;clear hf5 hl5 hfr5 EXC;have ky7:=aA ky5;have N7:=Hh (HI.o D S _ y wc B g m _ hst5 (HLr.o.same (HF5.o.1.block m hmg)) hB5 (by omega) (HND.o.same fun b hb=>(HF5.o.1.block b (HS.o b hb)).trans (HFW.o.1.block b (HS.o b hb))) HS.o hyv hyn (HTr.o.on HF5.o.1))
     have HFA:=HF5;clear hst5 ky5
     go_wp2_with (go_at_call 140;(with_reducible refine (N7.o).mono ?_);rintro e w8 ⟨rfl,l8,hst8,hout8,hlen8,hfr8⟩)
     go_roundw
     case rel=>
      refine ⟨j+1,l8,by go_num,by omega,hst8,?_,hlen8,HFR.o.trans (HFA.o.trans hfr8)⟩
      have h1:Out l (91::dV (P.take j)) l':=HOUT.o;have h2:Out l' ((if j=0 then [] else [44])++aT d y) l8:=by
       rcases hout8 with e8 | ⟨h8,h9⟩
       ·exact .inl (by rw [e8,HL5.o];simp)
       ·refine .inr ⟨h8,?_⟩
        simp only [HL5.o,Lg,Ag,Bs,ByteArray.size] at h9 ⊢;omega
      have h3:=h1.more hov h2;rw [HNX.o];exact h3
     case measure=>simp [intOf];omega
  ·have hlt':¬ (j:Int)<(its.length:Int):=by omega
   have hPl:P.length≤its.length:=by rw [HP.o];simp [List.length_zipWith];try omega
   rw [Ao (by omega)] at hout
   have PC:=Hh (eY ⟨#[93]⟩ wr hst (by show l'.length+1≤_;have:=hlen;omega) hBr)
   have HFW:=Hh hfw;have HOUT:=Hh hout;clear hout hst hfr hfw
   go_wp2_with (go_at_call 160;(with_reducible refine (PC.o).mono ?_);rintro e w4 ⟨rfl,hst4,hfr4⟩)
   go_end0
   refine ⟨rfl,l'++[93],hst4,HOUT.o.push [93],by rw [Lg];show l'.length+1≤_;omega,HFW.o.trans hfr4⟩
theorem PS {d:Nat} (hd:d<99000) (IH:pN d) {D:Nat} {S:Nat→Prop} (a1:Option Addr) (l1 c1:Nat) (a2:Option Addr) (l2 c2:Nat) (ns:List Bt) (its:List ND) (w:World) {B g m:Nat} {l:Ub} (hst:rG B w g m l) (hLt:eB w m) (hB:B≤w.heap.size) (hl:l.length≤460000)
 (hns:bE S w (.slice a1 l1 c1) ns) (his:cB (aC D S w) S w (.slice a2 l2 c2) its) (hS:∀b,S b→b<g) (hv:aB (d+1) (.mk 5 false 0 ⟨#[]⟩ ns its)=true) (hn:aO (d+1) (.mk 5 false 0 ⟨#[]⟩ ns its)=true) (hT:ITb g w) (hlen2:ns.length=its.length) :
 Calls prog 162 #[.pointer (some ⟨g,0,none⟩),.agg #[Iz 5,.bool false,Iz 0,.string ⟨#[]⟩,.slice a1 l1 c1,.slice a2 l2 c2],.string ⟨#[123]⟩,.string ⟨#[125]⟩] w (aEd B g m (d+1) l (aT (d+1) (.mk 5 false 0 ⟨#[]⟩ ns its)) w):=by
 have hnl:=cL hn;have hvl:=aX hv;simp only [Nc,ND.kind,ND.bool,ND.num,ND.text,ND.names,ND.items] at hnl hvl;rw [xJ];obtain ⟨P,hP⟩:∃P,P=List.zipWith (fun s y=>bH s.data.toList++58::aT d y) ns its:=⟨_,rfl⟩
 rw [←hP];obtain ⟨ai,ci,ei,hi1,hi2,-⟩:=id his;have hl2:l2=its.length:=by cases ei;rfl
 subst hl2;clear ei;have hmost:=hvl.2.1;have hl1:l1=ns.length:=by obtain ⟨_,_,e,_⟩:=id hns;cases e;rfl
 have HL1:=Hh hl1;have HLN:=Hh hlen2;clear hl1 hlen2;have hgl:=hst.lt;have hmg:=hst.le;have bX:=(Br w.heap.size w).alloc (o:=.cells #[Iz 5,.bool false,Iz 0,.string ⟨#[]⟩,.slice a1 l1 c1,.slice a2 its.length c2] 28) (Lr _);have kX:=Hn w (.cells #[Iz 5,.bool false,Iz 0,.string ⟨#[]⟩,.slice a1 l1 c1,.slice a2 its.length c2] 28);have fX:=WFr.of_below (TB:=5) (g:=g) bX (Bo hgl);have stX:=hst.below bX;have hbX:B≤(w.alloc (.cells #[Iz 5,.bool false,Iz 0,.string ⟨#[]⟩,.slice a1 l1 c1,.slice a2 its.length c2] 28)).heap.size:=Ae hB bX.size;generalize hwX:w.alloc (.cells #[Iz 5,.bool false,Iz 0,.string ⟨#[]⟩,.slice a1 l1 c1,.slice a2 its.length c2] 28)=wX at bX kX fX stX hbX;have PO:=Hh (eY ⟨#[123]⟩ wX stX (by show l.length+1≤_;omega) hbX)
 have H:=Hh his;have HN:=Hh hns;have HS:=Hh hS;have HV:=Hh hvl;have HNL:=Hh hnl;have HT:=Hh hT;have HP:=Hh hP;have HI:=Hh IH;have HLT:=Hh hLt;have FX:=Hh fX;have KX:=Hh kX;have hng:w.heap.size ≠ g:=by omega
 clear his hns hS hvl hnl hT hP IH hst hLt fX kX stX hbX bX hv hn
 go_enter func162,ntmps162
 go_upto_region 1 with fail
 go_upto_region 2 with ((with_reducible refine (PO.o).mono ?_);rintro e w2 ⟨rfl,hst2,hfr2⟩)
 clear hwX;have k2:=hfr2.2 _ _ hng KX.o iH;have c2x:=aA k2;clear k2;have S2:=Hh hst2;have F2:=Hh hfr2;clear hst2 hfr2
 go_upto_region 3 with fail
 clear c2x
 go_loopw [16] (fun i wr=>∃ (j:Nat) (l':Ub),i=Iz j∧j≤its.length∧rG B wr g m l'∧Out l (123::dV (P.take j)) l'∧l'.length≤900000+d∧WFr 5 g wX wr) (fun i _=>its.length - (intOf i).toNat)
 case atStart=>exact ⟨0,_,rfl,Ax _,S2.o,.inl rfl,by rw [Lg];show l.length+1≤_;omega,F2.o⟩
 case round=>
  obtain ⟨j,l',rfl,hj,hst,hout,hlen,hfr⟩:=hrel;have hBr:B≤wr.heap.size:=Ae hB (Ae FX.o.1.size hfr.1.size);have hfw:=FX.o.trans hfr;have HLr:=Hh (HLT.o.same (hfw.1.block m hmg));have HTr:=Hh (HT.o.on hfw.1)
  by_cases hlt:j<its.length
  ·have hlt':(j:Int)<(its.length:Int):=by omega
   have hj0:(0:Int)≤(j:Int):=by omega
   obtain ⟨-,-,-,b,off,y,a3,l3,c3,a4,l4,c4,rfl,hSb,hx,hnd,k0,k1,k2,k3,k4,k5⟩:=H.o.at hlt;have hbg:=HS.o b hSb;have q0:=(hfw.1.cell (p:=⟨b,off+j * 6,none⟩) hbg).trans k0;have q1:=(hfw.1.cell (p:=⟨b,off+j * 6+1,none⟩) hbg).trans k1;have q2:=(hfw.1.cell (p:=⟨b,off+j * 6+2,none⟩) hbg).trans k2;have q3:=(hfw.1.cell (p:=⟨b,off+j * 6+3,none⟩) hbg).trans k3;have q4:=(hfw.1.cell (p:=⟨b,off+j * 6+4,none⟩) hbg).trans k4;have q5:=(hfw.1.cell (p:=⟨b,off+j * 6+5,none⟩) hbg).trans k5;clear k0 k1 k2 k3 k4 k5;have hyv:=HV.o.1 y (Aq hx);have hyn:=HNL.o.2 y (Aq hx);have hjn:j<ns.length:=by have:=HLN.o;omega
   obtain ⟨-,-,-,bn,on,rfl,hSn,hcn,hsn⟩:=HN.o.at hjn;obtain ⟨sn,hse⟩:∃s,s=ns[j]:=⟨_,rfl⟩;have hnj:ns[j]?=some sn:=by rw [hse];exact Ac hjn
   rw [←hse] at hcn;have hPj:P[j]?=some (bH sn.data.toList++58::aT d y):=by rw [HP.o];exact aHq hnj hx
   have hsz:=kC (HV.o.2.2.2 sn (Aq hnj));have hsz':sn.size≤65536:=by have h:sn.data.toList.length=sn.size:=(by rw [Ah];rfl);omega
   have hql:=mW sn.data.toList;have hlt1:(j:Int)<(l1:Int):=by have:=HL1.o;have:=HLN.o;omega
   have hbn:=HS.o bn hSn;clear hse hnj;have hnx:=lJ hPj;have bA:=(Br wr.heap.size wr).alloc (o:=.cells #[Iz y.kind,.bool y.bool,Iz y.num,.string y.text,.slice a3 l3 c3,.slice a4 l4 c4] 28) (Lr _);have kA:=Hn wr (.cells #[Iz y.kind,.bool y.bool,Iz y.num,.string y.text,.slice a3 l3 c3,.slice a4 l4 c4] 28);have hgr:=hst.lt;have fA:=WFr.of_below (TB:=5) (g:=g) bA (Bo hgr);have sA:=hst.below bA;have hBA:B≤(wr.alloc (.cells #[Iz y.kind,.bool y.bool,Iz y.num,.string y.text,.slice a3 l3 c3,.slice a4 l4 c4] 28)).heap.size:=Ae hBr bA.size;have hny:wr.heap.size ≠ g:=by omega
   have HND:=Hh hnd;have HX:=Hh hx;have HOUT:=Hh hout;have HNX:=Hh hnx;have HFR:=Hh hfr;have HFW:=Hh hfw;clear hnd hx hout hnx hfr hPj hst
   go_upto_region 5 with fail
   clear q0 q1 q2 q3 q4 q5;generalize wr.alloc (.cells #[Iz y.kind,.bool y.bool,Iz y.num,.string y.text,.slice a3 l3 c3,.slice a4 l4 c4] 28)=wa at bA kA fA sA hBA ⊢;have EXC:=Hh (xR wa sA);have KA:=Hh kA;have FA:=Hh fA;have SA:=Hh sA;clear bA kA fA sA
   by_cases hov:65536<l'.length
   ·rw [An hov] at EXC
    go_wp2_with (go_at_call 141;(with_reducible refine (EXC.o).mono ?_);rintro e w3 ⟨rfl,rfl⟩)
    go_end0
    exact ⟨rfl,l',SA.o,HOUT.o.cut hov (rX P j 123 125),by omega,HFW.o.trans FA.o⟩
   ·rw [Ap hov] at EXC
    have hl65:l'.length≤65536:=by omega
    go_upto_if 24 with ((with_reducible refine (EXC.o).mono ?_);rintro e w3 ⟨rfl,rfl⟩)
    go_cut [] from 24 to 42 (fun wx=>rG B wx g m (l'++(if j=0 then [] else [44]))∧WFr 5 g wa wx)
    case first=>
     by_cases hj1:0<j
     ·have hj1':(0:Int)<(j:Int):=by omega
      have PC:=Hh (eY ⟨#[44]⟩ wa SA.o (by show l'.length+1≤_;omega) hBA)
      go_wp2_with (go_at_call 160;(with_reducible refine (PC.o).mono ?_);rintro e w4 ⟨rfl,hst4,hfr4⟩)
      go_meet
      case rel=>exact ⟨by rw [Af (by omega)];exact hst4,hfr4⟩
     ·have hj1':¬ (0:Int)<(j:Int):=by omega
      go_wp2
      go_meet
      case rel=>exact ⟨by rw [Am (by omega),Bu];exact SA.o,WFr.refl _ _ _⟩
    case rest=>
     obtain ⟨hst5,hfr5⟩:=hcut;obtain ⟨l5,hl5⟩:∃l5,l5=l'++(if j=0 then [] else [44]):=⟨_,rfl⟩
     rw [←hl5] at hst5;have hl5n:l5.length≤65537:=by
      rw [hl5,Lg];have:(if j=0 then ([]:Ub) else [44]).length≤1:=by split <;> simp
      omega
     have hf5:=FA.o.trans hfr5;have kx5:=aA ((HFR.o.trans hf5).2 _ _ hng KX.o iH);have ky5:=hfr5.2 _ _ hny KA.o iH;have hB5:B≤wc.heap.size:=Ae hBA hfr5.1.size;have HF5:=Hh hf5;have HL5:=Hh hl5;have HFR5:=Hh hfr5;clear hf5 hl5 hfr5 EXC;have Q5:=Hh (yP sn wc hst5 (HLr.o.same (HF5.o.1.block m hmg)) (by omega) hB5)
     have cn5:=(HF5.o.1.cell (p:=⟨bn,on+j,none⟩) hbn).trans ((HFW.o.1.cell (p:=⟨bn,on+j,none⟩) hbn).trans hcn);have KY5:=Hh ky5;clear ky5 hcn
     go_upto_region 10 with ((with_reducible refine (Q5.o).mono ?_);rintro e w6 ⟨rfl,hst6,hfr6⟩)
     have hq6:(l5++bH sn.data.toList).length≤460000 - 1:=by rw [Lg];omega
     have P7:=Hh (eY ⟨#[58]⟩ w6 hst6 (by show (l5++bH sn.data.toList).length+1≤_;omega) (Ae hB5 hfr6.1.size))
     have HFR6:=Hh hfr6;clear hst6 hfr6 kx5 cn5
     go_upto_region 11 with ((with_reducible refine (P7.o).mono ?_);rintro e w7 ⟨rfl,hst7,hfr7⟩)
     have hf7:=HFR6.o.trans hfr7;have ky7:=aA (hf7.2 _ _ hny KY5.o iH);have hfa:=HF5.o.trans hf7;have N7:=Hh (HI.o D S _ y w7 B g m _ hst7 (HLr.o.same (hfa.1.block m hmg)) (Ae hB5 hf7.1.size) (by rw [Lg];show (l5++bH sn.data.toList).length+1≤_;omega) (HND.o.same fun b hb=>(hfa.1.block b (HS.o b hb)).trans (HFW.o.1.block b (HS.o b hb))) HS.o hyv hyn (HTr.o.on hfa.1))
     have HFA:=Hh hfa;clear hst7 hfr7 hf7 hfa
     go_wp2_with (go_at_call 140;(with_reducible refine (N7.o).mono ?_);rintro e w8 ⟨rfl,l8,hst8,hout8,hlen8,hfr8⟩)
     go_roundw
     case rel=>
      refine ⟨j+1,l8,by go_num,by omega,hst8,?_,hlen8,HFR.o.trans (HFA.o.trans hfr8)⟩
      have h1:Out l (123::dV (P.take j)) l':=HOUT.o;have h2:Out l' ((if j=0 then [] else [44])++(bH sn.data.toList++58::aT d y)) l8:=by
       rcases hout8 with e8 | ⟨h8,h9⟩
       ·exact .inl (by rw [e8,HL5.o];simp)
       ·refine .inr ⟨h8,?_⟩
        simp only [HL5.o,Lg,Ag,Bs,ByteArray.size] at h9 ⊢;omega
      have h3:=h1.more hov h2;rw [HNX.o];exact h3
     case measure=>simp [intOf];omega
  ·have hlt':¬ (j:Int)<(its.length:Int):=by omega
   have hPl:P.length≤its.length:=by rw [HP.o];simp [List.length_zipWith];try omega
   rw [Ao (by omega)] at hout
   have PC:=Hh (eY ⟨#[125]⟩ wr hst (by show l'.length+1≤_;have:=hlen;omega) hBr)
   have HFW:=Hh hfw;have HOUT:=Hh hout;clear hout hst hfr hfw
   go_wp2_with (go_at_call 160;(with_reducible refine (PC.o).mono ?_);rintro e w4 ⟨rfl,hst4,hfr4⟩)
   go_end0
   refine ⟨rfl,l'++[125],hst4,HOUT.o.push [125],by rw [Lg];show l'.length+1≤_;omega,HFW.o.trans hfr4⟩
theorem PG {d:Nat} (hd:d<99000) (IH:pN d):pN (d+1):=by
 intro D S cs x w B g m l hst hLt hB hl h hS hv hn hT;obtain ⟨a1,l1,c1,a2,l2,c2,rfl⟩:=h.slices;have hnl:=cL hn;have hvl:=aX hv;cases D with
 | zero=>exact h.elim
 | succ D=>
 obtain ⟨vn,vi,e,ht,hns,his⟩:=h;simp only [Bq,Di,Dp] at e;obtain ⟨rfl,rfl⟩:=e;have hk:=jA hv;obtain ⟨k,b,n,t,ns,its⟩:=x;simp only [Nc,ND.kind,ND.bool,ND.num,ND.text,ND.names,ND.items,nd0,ND.mk.injEq,Dp,Di] at hk ht hns his hnl hvl ⊢;have hgl:=hst.lt;have hmg:=hst.le;have bX:=(Br w.heap.size w).alloc (o:=.cells #[Iz k,.bool b,Iz n,.string t,.slice a1 l1 c1,.slice a2 l2 c2] 28) (Lr _);have fX:=WFr.of_below (TB:=5) (g:=g) bX (Bo hgl);have stX:=hst.below bX;have hbX:B≤(w.alloc (.cells #[Iz k,.bool b,Iz n,.string t,.slice a1 l1 c1,.slice a2 l2 c2] 28)).heap.size:=Ae hB bX.size;have hTX:=hT.on fX.1;have hLX:eB (w.alloc (.cells #[Iz k,.bool b,Iz n,.string t,.slice a1 l1 c1,.slice a2 l2 c2] 28)) m:=hLt.same (fX.1.block m hmg);have hnsX:=hns.same (w':=w.alloc (.cells #[Iz k,.bool b,Iz n,.string t,.slice a1 l1 c1,.slice a2 l2 c2] 28)) fun q hq=>fX.1.block q (hS q hq)
 have hisX:=his.same (w':=w.alloc (.cells #[Iz k,.bool b,Iz n,.string t,.slice a1 l1 c1,.slice a2 l2 c2] 28)) (R':=aC D S (w.alloc (.cells #[Iz k,.bool b,Iz n,.string t,.slice a1 l1 c1,.slice a2 l2 c2] 28))) (fun q hq=>fX.1.block q (hS q hq)) fun cs y q=>q.same fun q hq=>fX.1.block q (hS q hq)
 have FX:=Hh fX;rcases hk with ⟨rfl,rfl,rfl,rfl,rfl,rfl⟩ | ⟨rfl,rfl,rfl,rfl,rfl⟩ | ⟨rfl,rfl,rfl,rfl,rfl⟩ | ⟨rfl,rfl,rfl,rfl,rfl⟩ | ⟨rfl,rfl,rfl,rfl,rfl⟩ | ⟨⟨rfl,rfl,rfl,rfl⟩,hlen2⟩
 ·have P:=Hh (eY ⟨#[110,117,108,108]⟩ _ stX (by show l.length+4≤_;omega) hbX)
  clear hnsX hisX hns his hnl hvl hv hn hT IH ht hst hLt hTX hLX fX bX stX hbX
  go_enter func140,ntmps140
  go_wp2_with (go_at_call 160;(with_reducible refine (P.o).mono ?_);rintro e w2 ⟨rfl,hst2,hfr2⟩)
  go_end0
  exact ⟨rfl,_,hst2,.inl rfl,by rw [Lg];show l.length+4≤_;omega,FX.o.trans hfr2⟩
 ·have F:=Hh (fun wx=>aCi b wx)
  have P:=Hh (fun s hs=>eY s _ stX hs hbX)
  clear hnsX hisX hns his hnl hvl hv hn hT IH ht hst hLt hTX hLX fX bX stX hbX;cases b
  ·simp only [Bool.false_eq_true,if_false,if_true] at F
   have P':=Hh (P.o ⟨#[102,97,108,115,101]⟩ (show l.length+5≤1000000 by omega))
   go_enter func140,ntmps140
   go_wp2_with (first | (go_at_call 98;(with_reducible refine (F.o _).mono ?_);rintro e w2 ⟨rfl,rfl⟩) | (go_at_call 160;(with_reducible refine (P'.out).mono ?_);rintro e w2 ⟨rfl,hst2,hfr2⟩))
   go_end0
   exact ⟨rfl,_,hst2,.inl rfl,by rw [Lg];show l.length+5≤_;omega,FX.o.trans hfr2⟩
  ·simp only [Bool.false_eq_true,if_false,if_true] at F
   have P':=Hh (P.o ⟨#[116,114,117,101]⟩ (show l.length+4≤1000000 by omega))
   go_enter func140,ntmps140
   go_wp2_with (first | (go_at_call 98;(with_reducible refine (F.o _).mono ?_);rintro e w2 ⟨rfl,rfl⟩) | (go_at_call 160;(with_reducible refine (P'.out).mono ?_);rintro e w2 ⟨rfl,hst2,hfr2⟩))
   go_end0
   exact ⟨rfl,_,hst2,.inl rfl,by rw [Lg];show l.length+4≤_;omega,FX.o.trans hfr2⟩
 ·obtain ⟨hw,-⟩:=hnl
  unfold dD at hw;rw [Ak,Av,Av] at hw;have hil:=Lib.itoa_length_le n hw.1 hw.2;have F:=Hh (fun wx h=>aBv n hw.1 hw.2 wx h)
  have HT:=Hh hTX.here;obtain ⟨s,hs⟩:∃s:Bt,s=⟨(Lib.itoa n).toArray⟩:=⟨_,rfl⟩;rw [←hs] at F;have hss:s.size≤100:=by rw [hs,TP];omega
  have HSL:Hid (s.data.toList=Lib.itoa n):=Hh (by rw [hs])
  have P:=Hh (fun (w2:World) (hb:Below (w.alloc (.cells #[Iz 2,.bool false,Iz n,.string ⟨#[]⟩,.slice a1 l1 c1,.slice a2 l2 c2] 28)).heap.size (w.alloc (.cells #[Iz 2,.bool false,Iz n,.string ⟨#[]⟩,.slice a1 l1 c1,.slice a2 l2 c2] 28)) w2)=>eY s w2 (stX.below hb) (show l.length+s.size≤1000000 by omega) (Ae hbX hb.size))
  have hgX:g≤(w.alloc (.cells #[Iz 2,.bool false,Iz n,.string ⟨#[]⟩,.slice a1 l1 c1,.slice a2 l2 c2] 28)).heap.size:=Bo stX.lt;clear hnsX hisX hns his hvl hv hn hT IH ht hst hLt hTX hLX fX bX stX hbX hs
  go_enter func140,ntmps140
  go_wp2_with (first | (go_at_call 99;(with_reducible refine (F.o _ HT.o).mono ?_);rintro e w2 ⟨rfl,hb2⟩) | (go_at_call 160;(with_reducible refine (P.o _ hb2).mono ?_);rintro e w3 ⟨rfl,hst3,hfr3⟩))
  go_end0
  refine ⟨rfl,_,hst3,.inl (by rw [HSL.o];rfl),?_,FX.o.trans ((WFr.of_below hb2 hgX).trans hfr3)⟩
  rw [Lg,HSL.o];omega
 ·have hs:=kC hvl.2.2.1
  have hss:t.data.toList.length=t.size:=by rw [Ah];rfl
  have P:=Hh (yP t _ stX hLX (by omega) hbX)
  have hql:=mW t.data.toList;clear hnsX hisX hns his hnl hvl hv hn hT IH ht hst hLt hTX hLX fX bX stX hbX
  go_enter func140,ntmps140
  go_wp2_with (go_at_call 161;(with_reducible refine (P.o).mono ?_);rintro e w2 ⟨rfl,hst2,hfr2⟩)
  go_end0
  exact ⟨rfl,_,hst2,.inl rfl,by rw [Lg];omega,FX.o.trans hfr2⟩
 ·have P:=Hh (PT (by omega) IH a1 l1 c1 a2 l2 c2 [] its _ stX hLX hbX hl hnsX hisX hS hv hn hTX)
  clear hnsX hisX hns his hnl hvl hv hn hT IH ht hst hLt hTX hLX fX bX stX hbX;have ck:=aA (Hn w (.cells #[Iz 4,.bool false,Iz 0,.string ⟨#[]⟩,.slice a1 l1 c1,.slice a2 l2 c2] 28))
  go_enter func140,ntmps140
  go_wp2_with (go_at_call 162;(with_reducible refine (P.o).mono ?_);rintro e w2 ⟨rfl,l2',hst2,hout2,hlen2,hfr2⟩)
  go_end0
  exact ⟨rfl,l2',hst2,hout2,hlen2,FX.o.trans hfr2⟩
 ·have P:=Hh (PS (by omega) IH a1 l1 c1 a2 l2 c2 ns its _ stX hLX hbX hl hnsX hisX hS hv hn hTX hlen2)
  clear hnsX hisX hns his hnl hvl hv hn hT IH ht hst hLt hTX hLX fX bX stX hbX hlen2;have ck:=aA (Hn w (.cells #[Iz 5,.bool false,Iz 0,.string ⟨#[]⟩,.slice a1 l1 c1,.slice a2 l2 c2] 28))
  go_enter func140,ntmps140
  go_wp2_with (go_at_call 162;(with_reducible refine (P.o).mono ?_);rintro e w2 ⟨rfl,l2',hst2,hout2,hlen2,hfr2⟩)
  go_end0
  exact ⟨rfl,l2',hst2,hout2,hlen2,FX.o.trans hfr2⟩
theorem PE:pN 0:=by
 intro D S cs x w B g m l hst hLt hB hl h hS hv hn hT;cases hv
theorem DC:∀d,d<99000→pN d
 | 0,_=>PE
 | d+1,h=>PG (by omega) (DC d (by omega))
def jsS (x:ND):Bt:=if aB 8 x then (if 65536<(aT 8 x).length then ⟨#[]⟩ else ⟨(aT 8 x).toArray⟩) else ⟨#[]⟩
def jsE (x:ND):Int:=if aB 8 x then (if 65536<(aT 8 x).length then 3 else 0) else 1
theorem FS {x:ND} (h:aB 8 x=false):jsS x=⟨#[]⟩∧jsE x=1:=by unfold jsS jsE;rw [h];exact ⟨rfl,rfl⟩
theorem zM {x:ND} (h:aB 8 x=true) (hl:65536<(aT 8 x).length):jsS x=⟨#[]⟩∧jsE x=3:=by unfold jsS jsE;rw [h,Am rfl,Am rfl,Am hl,Am hl];exact ⟨rfl,rfl⟩
theorem sO {x:ND} (h:aB 8 x=true) (hl:¬65536<(aT 8 x).length):jsS x=⟨(aT 8 x).toArray⟩∧jsE x=0:=by unfold jsS jsE;rw [h,Am rfl,Am rfl,Af hl,Af hl];exact ⟨rfl,rfl⟩
theorem aBm (x:ND):(jsS x).size≤65536:=by
 unfold jsS
 split
 ·split
  ·exact Ax _
  ·rename_i h;rw [TP];omega
 ·exact Ax _
def aHh (x:ND) (w:World) (e:Ending) (w':World):Prop:=e=.returned (.tuple #[.string (jsS x),Iz (jsE x)])∧Below w.heap.size w w'
theorem ITb.of {w w':World} {g:Nat} (h:BG w) (hb:Below w.heap.size w w') (hg:w.heap.size≤g):ITb g w':=fun w'' h''=>Lib.tabBelow_of_tabIs h w'' (hb.trans (h''.mono hg))
theorem WSt.fresh {w:World} {m:Nat} (hm:m<w.heap.size):rG (w.heap.size+1) (w.alloc (.cells #[Sn,.map (some m)] 168)) w.heap.size m []:=
 ⟨_,Hn _ _,Dr _ _ _ _,Nat.lt_succ_self _,hm⟩
theorem WFr.below {TB:TypeId} {g C:Nat} {w w':World} (h:WFr TB g w w') (hC:C≤g):Below C w w':=h.1.mono hC
theorem LD {D:Nat} {S:Nat→Prop} (cs:Vl) (x:ND) (w:World) (h:aC D S w cs x) (hS:∀b,S b→b<w.heap.size) (hl:jN D x) (hw:aB 8 x=true→aO 8 x=true) (hT:kI w) (hI:BG w):Calls prog 126 #[.agg cs.toArray] w (aHh x w):=by
 obtain ⟨a1,l1,c1,a2,l2,c2,rfl⟩:=h.slices;obtain ⟨ib,hib,hb0,hb1,hb2⟩:=info_parts qE;have b1:=(Br w.heap.size w).alloc (o:=.cells #[Iz x.kind,.bool x.bool,Iz x.num,.string x.text,.slice a1 l1 c1,.slice a2 l2 c2] 28) (Lr _);have ck:=aA (Hn w (.cells #[Iz x.kind,.bool x.bool,Iz x.num,.string x.text,.slice a1 l1 c1,.slice a2 l2 c2] 28));have hwl:w.heap.size<(w.alloc (.cells #[Iz x.kind,.bool x.bool,Iz x.num,.string x.text,.slice a1 l1 c1,.slice a2 l2 c2] 28)).heap.size:=by simp
 obtain ⟨w1,hw1⟩:∃W,W=w.alloc (.cells #[Iz x.kind,.bool x.bool,Iz x.num,.string x.text,.slice a1 l1 c1,.slice a2 l2 c2] 28):=⟨_,rfl⟩;rw [←hw1] at b1 ck hwl;have V:=Hh (kR _ x w1 (h.same fun b hb=>b1.block b (hS b hb)) (fun b hb=>Ll (hS b hb) b1.size) hl (hT.below b1))
 have B1:=Hh b1;have CK:=Hh ck;have HI:=Hh hI;have HN:=Hh h;have HS:=Hh hS;have HW:=Hh hw;have WL:=Hh hwl;clear h hS hl hw hT hI b1 hwl hib;cases hv:aB 8 x with
 | false=>
  rw [hv] at V;obtain ⟨e1,e2⟩:=FS hv;have HE:=Hh (Ai e1 e2);clear hv e1 e2
  go_enter func126,ntmps126
  go_upto_region 1 with fail
  rw [←hw1];clear hw1
  go_wp2_with (go_at_call 23;(with_reducible refine (V.o).mono ?_);rintro e w2 ⟨rfl,hb2⟩)
  go_ret2
  exact ⟨by rw [HE.o.1,HE.o.2];rfl,B1.o.trans (hb2.mono B1.o.size)⟩
 | true=>
  rw [hv] at V;have hnu:=HW.o hv;have hwz:=nT (e:=8) (d:=8) (Lr _) hv;have HV:=Hh hv;have HNU:=Hh hnu;clear hv hnu hwz
  go_enter func126,ntmps126
  go_upto_region 1 with fail
  rw [←hw1];clear hw1
  go_upto_region 3 with ((with_reducible refine (V.o).mono ?_);rintro e w2 ⟨rfl,hb2⟩)
  have LE:=Hh (vU w2);have hB2:=B1.o.trans (hb2.mono B1.o.size);have HB2:=Hh hb2;have hz2:w.heap.size<w2.heap.size:=Ll WL.o hb2.size;have BB2:=Hh hB2;clear ck hb2 hB2
  go_upto_region 4 with ((with_reducible refine (LE.o).mono ?_);rintro e w3 ⟨rfl,hlt3,hb3⟩)
  have hB3:=BB2.o.trans (hb3.mono BB2.o.size);have hz3:w2.heap.size<w3.heap.size:=hlt3.lt;have b4:=(Br w3.heap.size w3).alloc (o:=.cells #[Sn,.map (some w2.heap.size)] 168) (Lr _);have st4:=WSt.fresh (w:=w3) hz3;have hz4:(w3.alloc (.cells #[Sn,.map (some w2.heap.size)] 168)).heap.size=w3.heap.size+1:=by simp
  have hlt4:=hlt3.below b4;have hB4:=hB3.trans (b4.mono hB3.size);have hb24:=hb3.trans (b4.mono hb3.size);have ck4:=(HB2.o.trans (hb24.mono HB2.o.size));have cc4:∀q v,w1.cell? ⟨w.heap.size,q,none⟩=some v→(w3.alloc (.cells #[Sn,.map (some w2.heap.size)] 168)).cell? ⟨w.heap.size,q,none⟩=some v:=fun q v hq=>(ck4.cell (p:=⟨w.heap.size,q,none⟩) WL.o).trans hq
  have d0:=cc4 0 _ CK.o.1;have d1:=cc4 1 _ CK.o.2.1;have d2:=cc4 2 _ CK.o.2.2.1;have d3:=cc4 3 _ CK.o.2.2.2.1;have d4:=cc4 4 _ CK.o.2.2.2.2.1;have d5:=cc4 5 _ CK.o.2.2.2.2.2;clear cc4 ck4;generalize w3.alloc (.cells #[Sn,.map (some w2.heap.size)] 168)=w4 at b4 st4 hz4 hlt4 hB4 hb24 d0 d1 d2 d3 d4 d5 ⊢;have N4:=Hh (DC 8 (by decide) D S _ x w4 (w3.heap.size+1) w3.heap.size w2.heap.size [] st4 hlt4 (by omega) (Ax _) (HN.o.same fun b hb=>hB4.block b (HS.o b hb)) (fun b hb=>by have:=HS.o b hb;omega) HV.o HNU.o (ITb.of HI.o hB4 (by omega)))
  have HB4:=Hh hB4;have hwg:w.heap.size≤w3.heap.size:=by omega
  clear hb3 b4 st4 hlt3 hlt4 hB3 hB4 hb24 hz4
  go_upto_region 5 with ((with_reducible refine (N4.o).mono ?_);rintro e w5 ⟨rfl,l5,hst5,hout5,hlen5,hfr5⟩)
  clear d0 d1 d2 d3 d4 d5;have EX:=Hh (xR w5 hst5);have hfin:=HB4.o.trans (hfr5.below hwg);obtain ⟨v5,k1,k2,-,-⟩:=hst5;have c5:w5.cell? ⟨w3.heap.size,0,none⟩=some v5:=aL k1 rfl;obtain ⟨ao,cap,rfl,-,-⟩:=dI k2;have hcv:=eX (P:=prog) w5 69 9 5 (w3.heap.size+1) l5.length _ l5 k2 underlying69 underlying5 underlying9;have HFIN:=Hh hfin;clear hfin hfr5 k1 k2 hlen5
  by_cases hov:65536<l5.length
  ·rw [An hov] at EX
   have hlong:=hout5.over hov;obtain ⟨e1,e2⟩:=zM HV.o (by simpa using hlong)
   have HE:=Hh (Ai e1 e2);clear e1 e2 hlong hout5 hov
   go_wp2_with (go_at_call 141;(with_reducible refine (EX.o).mono ?_);rintro e w6 ⟨rfl,rfl⟩)
   go_ret2
   exact ⟨by rw [HE.o.1,HE.o.2];rfl,HFIN.o⟩
  ·rw [Ap hov] at EX
   have he:=hout5.fits hov;have hnl:¬65536<(aT 8 x).length:=by rw [he] at hov;simpa using hov
   obtain ⟨e1,e2⟩:=sO HV.o hnl;have HE:=Hh (Ai e1 e2);have HEQ:=Hh he;clear e1 e2 hnl hout5 hov he
   go_wp2_with (go_at_call 141;(with_reducible refine (EX.o).mono ?_);rintro e w6 ⟨rfl,rfl⟩)
   go_ret2
   exact ⟨by rw [HE.o.1,HE.o.2,HEQ.o];rfl,HFIN.o⟩
theorem pV {S:Nat→Prop} {w:World} {b:Nat} {T:TypeId} {cs:Array Value} (ns:List Bt) (h:w.heap[b]?=some (.cells cs T (0,0))) (e:cs=(ns.map Value.string).toArray) (hS:S b) (hn:ns.length≤maxLen) (hs:∀s,s ∈ ns→s.size≤maxLen - 2):bE S w (.slice (some ⟨b,0,none⟩) ns.length ns.length) ns:=
 ⟨_,_,rfl,Lr _,hn,fun j s hj=>⟨b,0,rfl,hS,by have:=lS ns h e j s hj;rw [Bv];exact this,hs s (Aq hj)⟩⟩
theorem zA {d:Nat} {S:Nat→Prop} {w:World} {b:Nat} {T:TypeId} {cs:Array Value} (A:List NC) (h:w.heap[b]?=some (.cells cs T (0,0))) (e:cs=(cF A).toArray) (hS:S b) (hn:A.length≤maxLen) (hA:∀y,y ∈ A→aC d S w y.1 y.2):cB (aC d S w) S w (.slice (some ⟨b,0,none⟩) A.length A.length) (aE A):=by
 have hl:(aE A).length=A.length:=by simp [aE]
 refine ⟨some ⟨b,0,none⟩,A.length,by rw [hl],by rw [hl];exact Lr _,hn,fun j x hj=>?_⟩
 have hj':j<A.length:=by have:=dH hj;omega
 have ej:A[j]?=some (A[j].1,A[j].2):=by rw [Ac hj']
 have hx:x=A[j].2:=by
  rw [aE,Bc,ej] at hj;exact (Ab hj).symm
 subst hx;refine ⟨b,0,A[j].1,rfl,hS,fun f u hu=>?_,hA _ (Do hj')⟩
 have:=cR _ h e _ _ (jL (fun y hy=>(hA y hy).len) ej f u hu)
 rw [Bv];exact this
theorem KD:∀ {d e:Nat} {x:ND},d≤e→aB d x=true→aO d x=true→aO e x=true
 | 0,_,_,_,h,_=>by cases h
 | d+1,0,_,h,_,_=>by omega
 | d+1,e+1,x,hd,hv,hn=>by
  rw [cQ,Ak,Aw] at hv;rw [cJ,Ak,Aw] at hn ⊢;exact ⟨hn.1,fun y hy=>KD (by omega) (hv.2 y hy) (hn.2 y hy)⟩
theorem yZ:∀ {d e:Nat} {x:ND},d≤e→aO e x=true→aO d x=true
 | 0,_,_,_,_=>rfl
 | d+1,0,_,h,_=>by omega
 | d+1,e+1,x,hd,hn=>by
  rw [cJ,Ak,Aw] at hn ⊢;exact ⟨hn.1,fun y hy=>yZ (by omega) (hn.2 y hy)⟩
def RP (d:Nat) (w:World) (o:Option ND) (e:Ending) (w':World):Prop:=∃cs:Vl,e=.returned (.tuple #[.agg cs.toArray,.bool o.isSome])∧aC (d+1) (Fr w.heap.size w') w' cs (o.getD nd0)∧Below w.heap.size w w'
theorem zB {d:Nat} {S:Nat→Prop} (cs:Vl) (x:ND) (s:Bt) (w:World) (h:aC (d+1) S w cs x) (hS:∀b,S b→b<w.heap.size) (hk:x.kind=5) (hlen:x.names.length=x.items.length) (hlow:jG (d+1) x) :
 Calls prog 30 #[.agg cs.toArray,.string s] w (RP d w (eL x s)):=by
 obtain ⟨a1,l1,c1,a2,l2,c2,rfl⟩:=h.slices;have hg:eL x s=(x.names.findIdx? (fun t=>decide (t=s))).bind fun i=>x.items[i]?:=by unfold eL;rw [Am hk]
 rw [hk] at h ⊢;obtain ⟨w1,hw1⟩:∃W,W=(w.alloc (.cells #[Iz 5,.bool x.bool,Iz x.num,.string x.text,.slice a1 l1 c1,.slice a2 l2 c2] 28)).alloc (.cells Z6 28):=⟨_,rfl⟩;have z1:(w.alloc (.cells #[Iz 5,.bool x.bool,Iz x.num,.string x.text,.slice a1 l1 c1,.slice a2 l2 c2] 28)).heap.size=w.heap.size+1:=by simp
 have b1:Below w.heap.size w w1:=by rw [hw1];exact ((Br _ _).alloc (Lr _) _).alloc (by simp) _
 have k0:w1.heap[w.heap.size]?=some (.cells #[Iz 5,.bool x.bool,Iz x.num,.string x.text,.slice a1 l1 c1,.slice a2 l2 c2] 28 (0,0)):=by rw [hw1];exact (Bh _ _ _ (by omega)).trans (Hn _ _)
 have k1:w1.heap[w.heap.size+1]?=some (.cells Z6 28 (0,0)):=by
  have:=Hn (w.alloc (.cells #[Iz 5,.bool x.bool,Iz x.num,.string x.text,.slice a1 l1 c1,.slice a2 l2 c2] 28)) (.cells Z6 28);rw [z1] at this;rw [hw1];exact this
 have z2:w1.heap.size=w.heap.size+2:=by rw [hw1];simp
 obtain ⟨vn,vi,e,-,hns,his⟩:=h;simp only [Bq,Di,Dp] at e;obtain ⟨-,rfl,rfl⟩:=e;have hns1:=hns.same fun b hb=>b1.block b (hS b hb)
 have his1:cB (aC d S w1) S w1 (.slice a2 l2 c2) x.items:=his.same (fun b hb=>b1.block b (hS b hb)) fun cs y q=>q.same fun b hb=>b1.block b (hS b hb)
 obtain ⟨ao2,cap2,e2,r1,r2,-⟩:=id his1;cases e2;have IX:=Hh (zO _ _ s w1 hns1);have c0:=aA k0;have f1:=aD k1;have t1:=aA k1;have HIS:=Hh his1;have K1:=Hh k1;have B1:=Hh b1;have Z2:=Hh z2;have HS:=Hh hS;have HL:=Hh hlow;have HLEN:=Hh hlen;have hmx:x.items.length≤maxLen:=by omega
 cases hf:x.names.findIdx? (fun t=>decide (t=s)) with
 | none=>
  have hi:BC x.names s=-1:=by unfold BC;rw [hf]
  rw [hf] at hg;rw [hi] at IX;rw [hg];clear hns hns1 his his1 b1 k0 z1 z2 hS hlow hlen hf hi hg hk r1 r2 k1
  go_enter func30,ntmps30
  go_upto_region 1 with fail
  rw [←hw1];clear hw1
  go_wp2_with (go_at_call 42;(with_reducible refine (IX.o).mono ?_);rintro e w2 ⟨rfl,rfl⟩)
  have hput:=dB K1.o (Iz 0) (.bool false) (Iz 0) (.string ⟨#[]⟩) (Sn) (Sn);have hgf:=aM w1 (w.heap.size+1) (Iz 0) (.bool false) (Iz 0) (.string ⟨#[]⟩) (Sn) (Sn);have hbb:=B1.o;refine Ar (v:=.tuple #[.agg Z6,.bool false]) ?_ ?_ ?_;rotate_left
  ·rfl
  ·exact ⟨Y6,rfl,(cC _ _ 0 false 0 ⟨#[]⟩ (by decide)).deeper (by omega),hbb.grown hgf hbb.size (fun b e=>by have:=Ab e;omega)⟩
  ·obtain ⟨q0,q1,q2,q3,q4,q5⟩:=aA hput
   simp only [dE] at q0 q1 q2 q3 q4 q5;simp [results,results30,go_sem,q0,q1,q2,q3,q4,q5]
 | some i=>
  have hi:BC x.names s=(i:Int):=by unfold BC;rw [hf]
  have hil:i<x.items.length:=by
   have:=dH (fD hf).1;omega
  rw [hf] at hg;have hil':(i:Int)<(x.items.length:Int):=by omega
  have hi0:(0:Int)≤(i:Int):=by omega
  rw [hi] at IX;obtain ⟨-,-,-,b,off,y,b1',m1,n1,b2',m2,n2,rfl,hSb,hx,hnd,q0,q1,q2,q3,q4,q5⟩:=his1.at hil;have hgy:eL x s=some y:=hg.trans hx;rw [hgy];have CC:=Hh (uQ d S _ y w1 hnd (fun b hb=>Ll (hS b hb) b1.size) (hlow.2.2 y (Aq hx)))
  clear hns hns1 his his1 b1 k0 z1 z2 hS hlow hlen hf hi hg hk r1 r2 k1 hil hx hnd hgy
  go_enter func30,ntmps30
  go_upto_region 1 with fail
  rw [←hw1];clear hw1
  go_wp2_with (first
   | (go_at_call 42;(with_reducible refine (IX.o).mono ?_);rintro e w2 ⟨rfl,rfl⟩)
   | (go_at_call 57;(with_reducible refine (CC.o).mono ?_);rintro e w2 ⟨cs3,rfl,hm,hb2⟩;obtain ⟨a3,l3,c3,a4,l4,c4,rfl⟩:=hm.slices;(have hk3:=(hb2.block _ (Aa K1.o)).trans K1.o);(have f3:=aD hk3);(have t3:=aA hk3);clear hk3))
  have hk3:=(hb2.block _ (Aa K1.o)).trans K1.o;have hput:=dB hk3 (Iz y.kind) (.bool y.bool) (Iz y.num) (.string y.text) (.slice a3 l3 c3) (.slice a4 l4 c4);have hgf:=aM w2 (w.heap.size+1) (Iz y.kind) (.bool y.bool) (Iz y.num) (.string y.text) (.slice a3 l3 c3) (.slice a4 l4 c4);have hbb:=B1.o.trans (hb2.mono B1.o.size);have hz2:=Z2.o;refine Ar (v:=.tuple #[.agg #[Iz y.kind,.bool y.bool,Iz y.num,.string y.text,.slice a3 l3 c3,.slice a4 l4 c4],.bool true]) ?_ ?_ ?_;rotate_left
  ·rfl
  ·have e1:∀b,Fr w1.heap.size w2 b→(dE w2 (w.heap.size+1) (Iz y.kind) (.bool y.bool) (Iz y.num) (.string y.text) (.slice a3 l3 c3) (.slice a4 l4 c4)).heap[b]?=w2.heap[b]?:=fun b hb=>hgf.block b hb.2.1 (by intro e;have:=Ab e;have:=hb.1;omega)
   exact ⟨[Iz y.kind,.bool y.bool,Iz y.num,.string y.text,.slice a3 l3 c3,.slice a4 l4 c4],rfl,((hm.same e1).mono fun b hb=>hb.move (e1 b hb) (by omega) hgf.size).deeper (by omega),hbb.grown hgf hbb.size (fun b e=>by have:=Ab e;omega)⟩
  ·obtain ⟨q0,q1,q2,q3,q4,q5⟩:=aA hput
   simp only [dE] at q0 q1 q2 q3 q4 q5;simp [results,results30,go_sem,q0,q1,q2,q3,q4,q5]
theorem cH.mono {d d':Nat} {x:ND} (h:cH d x) (hd:d≤d'):cH d' x:={ h with items:=fun y hy=>vJ hd (h.items y hy) }
theorem OJ (z:Bt) (w:World):Calls prog 15 #[.string z] w fun e w'=>e=.returned (.agg #[Iz 3,.bool false,Iz 0,.string z,Sn,Sn])∧Below w.heap.size w w':=by
 have b0:=(Br w.heap.size w).alloc (o:=.cells #[Iz 3,.bool false,Iz 0,.string z,Sn,Sn] 28) (Lr _);have k0:=Hn w (.cells #[Iz 3,.bool false,Iz 0,.string z,Sn,Sn] 28);obtain ⟨q0,q1,q2,q3,q4,q5⟩:=aA k0
 go_enter func15,ntmps15
 go_wp2
 refine Ar (v:=.agg #[Iz 3,.bool false,Iz 0,.string z,Sn,Sn]) ?_ ?_ ?_;rotate_left
 ·rfl
 ·exact ⟨rfl,b0⟩
 ·simp [results,results15,go_sem,q0,q1,q2,q3,q4,q5]
end Go.Proofs.YtncdpanfefnjlaaGreatDoor