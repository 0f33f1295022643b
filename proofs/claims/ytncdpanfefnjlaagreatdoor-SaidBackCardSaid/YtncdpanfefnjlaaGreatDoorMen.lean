import Derived.Test.YtncdpanfefnjlaaGreatDoorMhe
set_option linter.unusedVariables false
set_option linter.unusedSimpArgs false
set_option maxHeartbeats 6400000
set_option maxRecDepth 100000
namespace Go.Proofs.YtncdpanfefnjlaaGreatDoor
open Go.Proofs.Tryz
open Go Go.ChangeShapes Go.WideShapes Go.ChangeAt Go.RowKit Go.Shelf
attribute [local go_sem] Oper.semAt_some
theorem nR {F:Fence} (hd:F.depth=none) {m:Nat} (m':Nat) {P:Program} {l:Nat} {args:Array Value} {W:World} {R:Ending→World→Prop} (h:YieldAt F m P l args W R):YieldAt F m' P l args W R:=by
 obtain ⟨fn,tmps,assign,body,hy,h1,h2⟩:=h;exact ⟨fn,tmps,assign,body,hy,h1,fun c cs _=>h2 c cs (fun d h=>by rw [hd] at h;cases h)⟩
theorem aFd:(28:TypeId) ≠ 5:=by decide
structure GL (w0:World) (g l N:Nat) (J Jx:List Bt→World→Prop):Prop where
 alloc:∀pre W W',J pre W→W.grownBy W' none→J pre W'
 room:g<w0.heap.size
 round:∀pre (x:Bt) W,x.size≤131072→J pre W→pre.length<N→YieldAt Fence.wide 10 prog l #[.string x] W fun e W'=>(e=.returned (.bool true)∧J (pre++[x]) W'∧KpW 5 g W W')∨(e=.returned (.bool false)∧Jx (pre++[x]) W')
def aIs (g:Nat) (T pre:List Bt) (J Jx:List Bt→World→Prop) (W:World) (e:Ending) (W':World):Prop:=(e=.returned (.bool true)∧J (pre++T) W'∧KpW 5 g W W')∨(e=.returned (.bool false)∧∃q,q <+: T∧Jx (pre++q) W')
def aIt (w0:World) (B g l N:Nat) (S:Nat→Prop) (J Jx:List Bt→World→Prop) (d:Nat):Prop:=∀ (D:Nat) (cs:Vl) (x:ND) (n:Nat) (pre:List Bt) (W:World),aC D S w0 cs x→aB d x=true→aO d x=true→Below g w0 W→g<W.heap.size→J pre W→pre.length+(pcs d x).length≤N →
 CallsIn Fence.wide n prog 175 #[.agg cs.toArray,.func (.yield l) #[] #[]] W (aIs g (pcs d x) pre J Jx W)
theorem aEu {w0:World} {B g l N:Nat} {S:Nat→Prop} {J Jx:List Bt→World→Prop} (hS:∀b,S b→b<g) (hT:wR B w0) (hBg:B≤g) (R:GL w0 g l N J Jx) {d:Nat} (IH:aIt w0 B g l N S J Jx d):aIt w0 B g l N S J Jx (d+1):=by
 intro D cs x n pre W h hv hn hW hgW hJ hN;obtain ⟨a1,l1,c1,a2,l2,c2,rfl⟩:=h.slices;cases D with
 | zero=>exact h.elim
 | succ D=>
 have hxn:aC (D+1) S W (Nc x a1 l1 c1 a2 l2 c2) x:=h.same fun b hb=>hW.block b (hS b hb)
 have HD:=Hh (fun (wx:World) (hb:Below W.heap.size W wx)=>KO (B:=B) _ x wx (hxn.same fun b hb'=>hb.block b (Cl (hS b hb') hgW)) (fun b hb'=>Ll (Cl (hS b hb') hgW) hb.size) hv hn ((hT.below (hW.mono hBg)).below (hb.mono (by omega))))
 have bA:=(Br W.heap.size W).alloc (o:=.cells (Na x a1 l1 c1 a2 l2 c2) 28) (Lr _);have kA:=Hn W (.cells (Na x a1 l1 c1 a2 l2 c2) 28);have hJA:=R.alloc pre _ _ hJ (World.grownBy_alloc W (.cells (Na x a1 l1 c1 a2 l2 c2) 28) none);obtain ⟨p,hp⟩:∃p,p=W.heap.size:=⟨_,rfl⟩;have hpg:p ≠ g:=by omega
 rw [←hp] at kA;obtain ⟨hd,hhd⟩:∃t,t=bC (cZ (pHd x) (kO x)):=⟨_,rfl⟩;rw [←hhd] at HD;have hpl:2≤(pcs (d+1) x).length:=by rw [mI];simp
 have hz1:hd.size≤131072:=by rw [hhd,eH];unfold cZ;rw [Ag,aY];have:=aAg x;omega
 have hz2:x.text.size≤131072:=by have:=fJ (aX hv).2.2.1;omega
 have HX:=Hh (Ai h (Ai hv hn));have HW:=Hh hW;have HH:=Hh hhd;have HN:=Hh hN;clear h hv hn hW hhd hxn;refine callsIn_of_wp func175 rfl trivial ?_ rfl;simp only [ntmps175,Du,Ag,Bs,Nat.reduceAdd,Nat.reduceSub,Array.replicate_succ,Array.replicate_zero,List.push_toArray,List.append_toArray,Dm,Bm]
 gi_wp2
 rw [←hp];have HPG:=Hh hpg;have HBA:Hid (g<(W.alloc (.cells (Na x a1 l1 c1 a2 l2 c2) 28)).heap.size):=Hh (Ll hgW bA.size);have HD':=Hh (HD.o _ bA);have BA:=Hh bA;clear hp bA HD;generalize W.alloc _=wa at kA hJA HBA HD' BA ⊢;refine ⟨trivial,fun h=>(by cases h),(callsIn_wide.2 HD'.out).mono ?_⟩
 rintro e w3 ⟨rfl,hb3⟩;have hJ3:=R.alloc pre _ _ hJA (aK hb3 (Lr _) none);have k3:=(hb3.block _ (Aa kA)).trans kA;have hg3:g<w3.heap.size:=Ll HBA.o hb3.size;have hk3:KpW 5 g W w3:=KpW.below (BA.o.trans (hb3.mono BA.o.size)) (Bo hgW);obtain ⟨fn,tmps,assign,body,hy,hR⟩:=nR rfl (n - 1) (R.round pre hd w3 hz1 hJ3 (by omega))
 have HR:=Hh hR;have K3:=Hh k3;have HK3:=Hh hk3;have q3:=aA k3;clear hJ3 k3 hk3 hR HD' BA HBA hb3 hJA kA hg3
 gi_wp2
 refine ⟨fun h=>(by cases h),HR.o.mono ?_⟩
 rintro e W4 (⟨rfl,hJ4,hk4⟩ | ⟨rfl,hx4⟩);rotate_left
 ·have HX4:=Hh hx4
  clear hx4 HR hy q3
  gi_wp2
  refine ⟨fun _ h=>(by cases h),?_⟩
  gi_wp2
  go_ret
  exact .inr ⟨rfl,[hd],⟨_,by rw [mI,HH.o];rfl⟩,HX4.o⟩
 have k4:=hk4.2 _ _ _ _ HPG.o aFd K3.o;have q4:=aA k4;have HK4:=Hh (HK3.o.trans hk4);obtain ⟨fn2,tmps2,assign2,body2,hy2,hR2⟩:=nR rfl (n - 1) (R.round (pre++[hd]) x.text W4 hz2 hJ4 (by rw [Lg];simp;omega))
 have HR2:=Hh hR2;have K4:=Hh k4;clear hJ4 hk4 hR2 HR hy q3 k4
 gi_wp2
 refine ⟨fun h=>(by cases h),HR2.o.mono ?_⟩
 rintro e W5 (⟨rfl,hJ5,hk5⟩ | ⟨rfl,hx5⟩);rotate_left
 ·have HX5:=Hh hx5
  clear hx5 HR2 hy2 q4
  gi_wp2
  go_ret
  exact .inr ⟨rfl,[hd,x.text],⟨_,by rw [mI,HH.o];rfl⟩,by have:=HX5.o;rw [Aj] at this;exact this⟩
 have K5:=Hh (hk5.2 _ _ _ _ HPG.o aFd K4.o);have HK5:=Hh (HK4.o.trans hk5);have q5:=aA K5.o;obtain ⟨hx0,hv,hn⟩:=HX.o;obtain ⟨vn,vi,e,-,hns,his⟩:=hx0;simp only [Bq,Di,Dp] at e;obtain ⟨rfl,rfl⟩:=e;obtain ⟨hi,hl,-,hnm⟩:=aX hv;obtain ⟨-,hni⟩:=cL hn;have hnl:=VY hv;have hcl:=aGp (V:=pcs d) hnl;obtain ⟨ai,ci,ei,-,-,-⟩:=id his;have hl2:l2=x.items.length:=by cases ei;rfl
 subst hl2;clear ei;have HI:=Hh his;have HS:=Hh hS;have HV:=Hh (Ai hi hni);have HNS:=Hh (Ai hns (Ai hnm hnl));have HCL:=Hh hcl;have HR:=Hh R;have HIH:=Hh IH;have HT:=Hh hT;have HL:=Hh hN;have H5:Hid (J (pre++hG d x 0) W5):=Hh (by rw [UO,←HH.o];have:=hJ5;rw [Aj] at this;exact this)
 clear hv hn hi hnm hni hnl hcl his hns hS R IH hT hN hJ5 hk5 HR2 hy2 q4 hJ hpl
 gi_wp2
 gi_loopw [22] (fun i wr=>∃ (j:Nat),j≤x.items.length∧i=Iz (j:Int)∧J (pre++hG d x j) wr∧KpW 5 g W5 wr) (fun i _=>x.items.length - (intOf i).toNat)
 case atStart=>exact ⟨0,Ax _,rfl,H5.o,KpW.refl _ _ _⟩
 case round=>
  obtain ⟨j,hj,rfl,hJp,hkp⟩:=hrel;have kr:=hkp.2 _ _ _ _ hpg aFd K5.o;have hWr:Below g w0 wr:=HW.o.trans (HK5.o.1.trans hkp.1);have hgr:g<wr.heap.size:=Ll hgW (Ae HK5.o.1.size hkp.1.size)
  by_cases hlt:j<x.items.length
  ·have hlt':(j:Int)<(x.items.length:Int):=by omega
   have hj0:(0:Int)≤(j:Int):=by omega
   obtain ⟨-,-,-,b,off,y,a3,l3,c3,a4,l4,c4,rfl,hSb,hx,hnd,m0,m1,m2,m3,m4,m5⟩:=HI.o.at hlt;have hbg:=HS.o b hSb;have cc:∀q v,w0.cell? ⟨b,off+j * 6+q,none⟩=some v→wr.cell? ⟨b,off+j * 6+q,none⟩=some v:=fun q v hq=>(hWr.cell (p:=⟨b,off+j * 6+q,none⟩) hbg).trans hq
   have e0:=cc 0 _ m0;have e1:=cc 1 _ m1;have e2:=cc 2 _ m2;have e3:=cc 3 _ m3;have e4:=cc 4 _ m4;have e5:=cc 5 _ m5;rw [Nat.add_zero] at e0;have hym:=Aq hx;have bA:=(Br wr.heap.size wr).alloc (o:=.cells (Na y a3 l3 c3 a4 l4 c4) 28) (Lr _);have kY:=Hn wr (.cells (Na y a3 l3 c3 a4 l4 c4) 28);have hJA:=HR.o.alloc _ _ _ hJp (World.grownBy_alloc wr (.cells (Na y a3 l3 c3 a4 l4 c4) 28) none);have hKA:KpW 5 g wr (wr.alloc (.cells (Na y a3 l3 c3 a4 l4 c4) 28)):=KpW.below bA (Bo hgr);have kX:=(bA.block _ (Aa kr)).trans kr;have qX:=aA kX;have HXB:=Hh kX;have HYB:=Hh kY;have HKA:=Hh hKA;have HKP:=Hh hkp;have HWA:Hid (Below g w0 (wr.alloc (.cells (Na y a3 l3 c3 a4 l4 c4) 28))∧g<(wr.alloc (.cells (Na y a3 l3 c3 a4 l4 c4) 28)).heap.size):=Hh ⟨hWr.trans hKA.1,Ll hgr bA.size⟩;have HYN:Hid (wr.heap.size ≠ g):=Hh (by omega)
   clear m0 m1 m2 m3 m4 m5 cc hJp hkp hKA kX kr bA hWr
   by_cases hk5:x.kind=5
   ·obtain ⟨hns,hnm,hnl⟩:=HNS.o
    have hnl:=hnl hk5;obtain ⟨an,cn,en,hn2,hn3,hSn⟩:=hns;have hl1:l1=x.names.length∧a1=an:=by cases en;exact ⟨rfl,rfl⟩
    obtain ⟨rfl,rfl⟩:=hl1;clear en;obtain ⟨sn,hsn⟩:∃s,x.names[j]?=some s:=⟨_,Ac (by omega)⟩
    obtain ⟨bn,on,hab,hSbn,hcn,hsz⟩:=hSn j sn hsn;subst hab;have hltn:(j:Int)<(x.names.length:Int):=by omega
    have hcnA:=(HWA.o.1.cell (p:=⟨bn,on+j,none⟩) (HS.o bn hSbn)).trans hcn;have hvy:=HV.o.1 y hym;have hc:=aGo (V:=pcs d) hk5 hx hsn;obtain ⟨e',rfl⟩:∃e',d=e'+1:=by
     cases d with
     | zero=>cases hvy
     | succ d=>exact ⟨d,rfl⟩
    have hD1:1≤D:=by
     cases D with
     | zero=>exact hnd.elim
     | succ D=>omega
    have htx:=aHv (d:=e') (hnm sn (Aq hsn));have hlen:(pre++hG (e'+1) x j).length+((EK sn).length+(pcs (e'+1) y).length)≤N:=by
     have h1:=(xW (e'+1) x (j+1)).length_le;rw [mG hc,Lg,Lg] at h1;have h0:=HN.o;rw [Lg];omega
    have HNM:=Hh (fun (wx:World) (hb:Below (wr.alloc (.cells (Na y a3 l3 c3 a4 l4 c4) 28)).heap.size (wr.alloc (.cells (Na y a3 l3 c3 a4 l4 c4) 28)) wx)=>HIH.o D [Iz 3,.bool false,Iz 0,.string sn,Sn,Sn] (txM sn) (n - 1) (pre++hG (e'+1) x j) wx ((cC S w0 3 false 0 sn hsz).deeper hD1) htx.1 htx.2 (HWA.o.1.trans (hb.mono (Bo HWA.o.2))) (Ll HWA.o.2 hb.size) (HR.o.alloc _ _ _ hJA (aK hb (Lr _) none)) (by rw [SJ];omega))
    rw [SJ] at HNM;have HNI:=Hh (fun (wx:World) (hb:Below g w0 wx) (hgx:g<wx.heap.size) (hjx:J (pre++hG (e'+1) x j++EK sn) wx)=>HIH.o D _ y (n - 1) _ wx hnd hvy (HV.o.2 y hym) hb hgx hjx (by rw [Lg];omega))
    have HC:=Hh hc;have qY:=aA kY;have hk5':(x.kind == 5)=true:=by simpa using hk5
    clear hk5 hc hlen hJA hnd hx hym kY q5 hvy hcn hsz hsn htx hn2 hn3 hSn hnm hnl
    gi_wp2
    refine ⟨trivial,fun h=>(by cases h),(callsIn_wide.2 (gA sn _)).mono ?_⟩
    rintro e w7 ⟨rfl,hb7⟩;have HN7:=Hh (HNM.o _ hb7);have HK7:=Hh (KpW.below (TB:=5) hb7 (Bo HWA.o.2));have HS7:=Hh hb7.size;clear hb7 HNM
    gi_wp2
    refine ⟨trivial,fun h=>(by cases h),HN7.o.mono ?_⟩
    rintro e W8 (⟨rfl,hJ8,hk8⟩ | ⟨rfl,q,hq,hx8⟩)
    ·have hk7:=HK7.o.trans hk8
     have q8:=aA (hk7.2 _ _ _ _ HYN.o aFd HYB.o);have HNI':=Hh (HNI.o W8 (HWA.o.1.trans hk7.1) (Ll HWA.o.2 hk7.1.size) hJ8);have HK8:=Hh hk7;clear hJ8 hk8 hk7 HN7 HNI qX qY
     gi_wp2
     refine ⟨trivial,fun h=>(by cases h),HNI'.out.mono ?_⟩
     rintro e W6 (⟨rfl,hJ6,hk6⟩ | ⟨rfl,q,hq,hx6⟩)
     ·have HJ6:Hid (J (pre++hG (e'+1) x (j+1)) W6):=Hh (by rw [mG HC.o,←Aj,←Aj];exact hJ6)
      have HK6:=Hh hk6;clear hJ6 hk6 HNI' q8
      gi_wp2
      go_roundw
      case rel=>exact ⟨j+1,by omega,by go_num,HJ6.o,HKP.o.trans (HKA.o.trans (HK8.o.trans HK6.o))⟩
      case measure=>simp [intOf] <;> omega
     ·have HX6:=Hh hx6
      have HQ:=Hh hq;clear hx6 hq HNI' q8
      gi_wp2
      go_ret
      exact .inr ⟨rfl,hG (e'+1) x j++(EK sn++q),tP HC.o ((List.prefix_append_right_inj _).2 HQ.o),by rw [←Aj,←Aj];exact HX6.o⟩
    ·have HX8:=Hh hx8
     have HQ:=Hh hq;clear hx8 hq HN7 HNI qX qY
     gi_wp2
     go_ret
     exact .inr ⟨rfl,hG (e'+1) x j++q,tP HC.o (HQ.o.trans (List.prefix_append _ _)),by rw [←Aj];exact HX8.o⟩
   ·have hk5':(x.kind == 5)=false:=by simpa using hk5
    have hc:=aDe (V:=pcs d) hk5 hx;have hlen:(pre++hG d x j).length+(pcs d y).length≤N:=by
     have h1:=(xW d x (j+1)).length_le;rw [mG hc,Lg] at h1;have h0:=HN.o;rw [Lg];omega
    have HN':=Hh (HIH.o D _ y (n - 1) _ _ hnd (HV.o.1 y hym) (HV.o.2 y hym) HWA.o.1 HWA.o.2 hJA hlen);have HC:=Hh hc;have qY:=aA kY;clear hc hlen hJA hnd hx hym kY q5
    gi_wp2
    refine ⟨trivial,?_⟩
    gi_wp2
    refine ⟨trivial,?_⟩
    gi_wp2
    refine ⟨trivial,fun h=>(by cases h),HN'.out.mono ?_⟩
    rintro e W6 (⟨rfl,hJ6,hk6⟩ | ⟨rfl,q,hq,hx6⟩)
    ·have HJ6:Hid (J (pre++hG d x (j+1)) W6):=Hh (by rw [mG HC.o,←Aj];exact hJ6)
     have HK6:=Hh hk6;clear hJ6 hk6 HN' qY qX
     gi_wp2
     go_roundw
     case rel=>exact ⟨j+1,by omega,by go_num,HJ6.o,HKP.o.trans (HKA.o.trans HK6.o)⟩
     case measure=>simp [intOf] <;> omega
    ·have HX6:=Hh hx6
     have HQ:=Hh hq;clear hx6 hq HN' qY qX
     gi_wp2
     go_ret
     exact .inr ⟨rfl,hG d x j++q,tP HC.o HQ.o,by rw [←Aj];exact HX6.o⟩
  ·have hge:¬ (j:Int)<(x.items.length:Int):=by omega
   have HU:Hid (hG d x j=pcs (d+1) x):=Hh (ZM (by rw [HCL.o];omega))
   rw [HU.o] at hJp;have HJ9:=Hh hJp;have HKP:=Hh hkp;clear hJp hkp
   gi_wp2
   go_ret
   exact .inl ⟨rfl,HJ9.o,HK5.o.trans HKP.o⟩
theorem YW {w0:World} {B g l N:Nat} {S:Nat→Prop} {J Jx:List Bt→World→Prop} (hS:∀b,S b→b<g) (hT:wR B w0) (hBg:B≤g) (R:GL w0 g l N J Jx):∀d,aIt w0 B g l N S J Jx d
 | 0=>fun D cs x n pre W h hv=>by cases hv
 | d+1=>aEu hS hT hBg R (YW hS hT hBg R d)
abbrev PcS:={ s:Bt // s.size≤131072 }
def rU (l:List PcS):List Bt:=l.map fun s=>s.1
theorem tS (l:List PcS) (s:PcS):rU (l++[s])=rU l++[s.1]:=by simp [rU]
theorem AX {D d B:Nat} {S:Nat→Prop} {x:ND} {a1 a2:Option Addr} {l1 c1 l2 c2:Nat} (w0:World) {g b1:Nat} (hS:∀b,S b→b<g)
 (hb1:w0.heap[b1]?=some (.cells (Na x a1 l1 c1 a2 l2 c2) 28 (0,0))) (h:aC D S w0 (Nc x a1 l1 c1 a2 l2 c2) x) (hv:aB d x=true) (hn:aO d x=true) (hgw:g<w0.heap.size) (hT:wR B w0) (hBg:B≤g) (n:Nat) :
 SeqStopsK Fence.wide n prog 174 #[.pointer (some ⟨b1,0,none⟩)] (fun s:PcS=>#[.string s.1]) (KpW 5 g) (fun xs=>rU xs=pcs d x) (fun pre=>rU pre <+: pcs d x) (pcs d x).length w0:=fun l J Jx W hW hJ _ hY h0=>by
 have R:GL w0 g l (pcs d x).length (fun q W=>∃xs,rU xs=q∧J xs W) (fun q W=>∃xs,rU xs=q∧Jx xs W):=⟨fun pre W W' hj hg=>by
  obtain ⟨xs,e,hj⟩:=hj;exact ⟨xs,e,hJ xs W W' none hj hg (fun r e=>by cases e)⟩,hgw,fun pre y W hy hj hl=>by
  obtain ⟨xs,rfl,hj⟩:=hj;refine nR rfl 10 ((hY xs ⟨y,hy⟩ W hj (by simpa [rU] using hl)).mono ?_)
  rintro e W' (⟨rfl,h1,h2⟩ | ⟨rfl,h1⟩)
  ·exact .inl ⟨rfl,⟨_,tS _ _,h1⟩,h2⟩
  ·exact .inr ⟨rfl,_,tS _ _,h1⟩⟩
 have HY:=Hh (YW hS hT hBg R d D _ x (n - 1) [] W h hv hn (hW.mono (Bo hgw)) (Ll hgw hW.size) ⟨[],rfl,h0⟩ (by simp))
 have q1:=aA ((hW.block _ (Aa hb1)).trans hb1);clear R hJ hY h0 hb1 h;refine callsIn_of_wp func174 rfl trivial ?_ rfl;simp only [ntmps174,Du,Ag,Bs,Nat.reduceAdd,Nat.reduceSub,Array.replicate_succ,Array.replicate_zero,List.push_toArray,List.append_toArray,Dm,Bm]
 gi_wp2
 refine ⟨trivial,fun h=>(by cases h),HY.o.mono ?_⟩
 rintro e W1 (⟨rfl,⟨xs,hxs,hJ1⟩,-⟩ | ⟨rfl,q,hq,xs,hxs,hx⟩)
 ·gi_wp2
  go_end0
  exact ⟨⟨_,rfl⟩,.inl ⟨xs,by simpa using hxs,hJ1⟩⟩
 ·gi_wp2
  go_end0
  exact ⟨⟨_,rfl⟩,.inr ⟨xs,by rw [hxs];simpa using hq,hx⟩⟩
theorem OU {a1 a2:Option Addr} {k n:Int} {b:Bool} {t:Bt} {l1 c1 l2 c2:Nat} (w:World):Calls prog 149 #[.agg #[Iz k,.bool b,Iz n,.string t,.slice a1 l1 c1,.slice a2 l2 c2]] w fun e w'=>e=.returned (.func (.func 174) #[] #[.pointer (some ⟨w.heap.size,0,none⟩)])∧w'=w.alloc (.cells #[Iz k,.bool b,Iz n,.string t,.slice a1 l1 c1,.slice a2 l2 c2] 28):=by
 go_enter func149,ntmps149
 go_wp2
 go_ret
 exact ⟨rfl,rfl⟩
attribute [local go_sem] Oper.semAt_some
theorem pO {F:Fence} {n':Nat} {P:Program} {ops:Array Oper} {rest:List Oper} {o:Oper} {a:Act} {Q:Exit→Act→World→Prop} (w:World) (hgd:o.guard=none) (sl x:Operand) (t u:TypeId)
 (ho:o.op=.call { callee:=.builtin .append,args:=#[sl,x],argTypes:=#[t,u] })
 (base:Nat) (e:TypeId) (i:TypeInfo) (ht:P.underlying t=some (.slice e)) (hu:P.underlying u=some .string) (hi:P.info? e=some i) (hz:i.zero=some (.int .u8 0))
 (hsize:i.size=1) (hby:i.bytes=1)
 (v:Value) (n:Nat) (xs:Vl) (hs:a.eval sl=v) (hown:w.ownsRow base e 1 v n xs) (s:Bt) (hx:a.eval x=.string s)
 (h63:n+s.size≤maxLen) (hbytes:n+s.size≤140737488355328) (hbase:base≤w.heap.size)
 (h:∀v' w',w'.ownsRow base e 1 v' (n+s.size) (xs++Lib.strCells s)→w.grownBy w' v.ownBlock→wpListIn F n' P ops Q rest (a.put o.dst v') w'):wpListIn F n' P ops Q (o::rest) a w:=by
 refine wpListIn_plain hgd fun K hK=>?_
 obtain ⟨v',w',hr,h2,h3,h4⟩:=Lib.run_append_own_string (P:=P) w base t u o.type e i ht hu hi hz hsize hby v n xs hown s h63 hbytes hbase;unfold Oper.wpIn;refine ⟨?_,?_⟩
 ·simp [Oper.about,ho,resolve,Target.leads,Sem.run_pure]
 ·rw [Oper.semAt_plain F _ _ (by rw [ho];intro c hc';cases hc')]
  simp [execOp,ho,resolve,invoke,builtin,hs,hx,hr,Result.andThen];exact hK _ _ (h v' w' h2 h3)
theorem lL {w:World} {g:Nat} {v:Value} {T:TypeId} (h:w.heap[g]?=some (.cells #[v] T (0,0))):w.cell? ⟨g,0,none⟩=some v∧w.frozen? ⟨g,0,none⟩=false:=⟨aL h rfl,gM h⟩
theorem pG {w:World} {g:Nat} {v:Value} {T:TypeId} (h:w.heap[g]?=some (.cells #[v] T (0,0))) (u:Value):(w.setCell ⟨g,0,none⟩ u).heap[g]?=some (.cells #[u] T (0,0)):=by
 have:=dQ h (j:=0) u
 simpa using this
structure YS (w:World):Prop where
 u:kI w
 s:Scl w
theorem YS.below {w w':World} (h:YS w) (hb:Below w.heap.size w w'):YS w':=⟨h.u.below hb,h.s.to hb⟩
theorem aKa:(69:TypeId) ≠ 5:=by decide
theorem DI {D:Nat} {S:Nat→Prop} (cs:Vl) (x:ND) (w:World) (h:aC D S w cs x) (hS:∀b,S b→b<w.heap.size) (hl:jN D x) (hw:aB 8 x=true→aO 8 x=true) (hT:YS w):Calls prog 132 #[.agg cs.toArray] w (aEh x w):=by
 obtain ⟨a1,l1,c1,a2,l2,c2,rfl⟩:=h.slices;have bb:=(((Br w.heap.size w).alloc (o:=.cells (Na x a1 l1 c1 a2 l2 c2) 28) (Lr _)).alloc (o:=.cells #[.string ⟨#[]⟩] 9) (by simp)).alloc (o:=.cells #[Iz 0] 33) (by simp;omega)
 have k2:=Hn ((w.alloc (.cells (Na x a1 l1 c1 a2 l2 c2) 28)).alloc (.cells #[.string ⟨#[]⟩] 9)) (.cells #[Iz 0] 33);have k1:(((w.alloc (.cells (Na x a1 l1 c1 a2 l2 c2) 28)).alloc (.cells #[.string ⟨#[]⟩] 9)).alloc (.cells #[Iz 0] 33)).heap[w.heap.size+1]?=some (.cells #[.string ⟨#[]⟩] 9 (0,0)):=(((Br _ ((w.alloc (.cells (Na x a1 l1 c1 a2 l2 c2) 28)).alloc (.cells #[.string ⟨#[]⟩] 9))).alloc (Lr _) _).block _ (by simp)).trans (by have:=Hn (w.alloc (.cells (Na x a1 l1 c1 a2 l2 c2) 28)) (.cells #[.string ⟨#[]⟩] 9);rw [Cw] at this;exact this)
 have k0:(((w.alloc (.cells (Na x a1 l1 c1 a2 l2 c2) 28)).alloc (.cells #[.string ⟨#[]⟩] 9)).alloc (.cells #[Iz 0] 33)).heap[w.heap.size]?=some (.cells (Na x a1 l1 c1 a2 l2 c2) 28 (0,0)):=((((Br _ (w.alloc (.cells (Na x a1 l1 c1 a2 l2 c2) 28))).alloc (Lr _) (.cells #[.string ⟨#[]⟩] 9)).alloc (by simp) (.cells #[Iz 0] 33)).block _ (by simp)).trans (Hn w (.cells (Na x a1 l1 c1 a2 l2 c2) 28))
 rw [Cw,Cw] at k2;obtain ⟨w3,hw3⟩:∃W,W=((w.alloc (.cells (Na x a1 l1 c1 a2 l2 c2) 28)).alloc (.cells #[.string ⟨#[]⟩] 9)).alloc (.cells #[Iz 0] 33):=⟨_,rfl⟩;obtain ⟨p0,hp0⟩:∃p,p=w.heap.size:=⟨_,rfl⟩;obtain ⟨p1,hp1⟩:∃p,p=w.heap.size+1:=⟨_,rfl⟩;obtain ⟨p2,hp2⟩:∃p,p=w.heap.size+1+1:=⟨_,rfl⟩;rw [←hw3] at bb k0 k1 k2;rw [←hp0] at k0;rw [←hp1] at k1;rw [←hp2] at k2;have hp12:p1 ≠ p2:=by omega
 have hpp:w.heap.size≤p0∧w.heap.size≤p1∧w.heap.size≤p2:=by omega
 have q0:=aA k0;have h3:=h.same fun b hb=>bb.block b (hS b hb)
 have hS3:∀b,S b→b<w3.heap.size:=fun b hb=>Ll (hS b hb) bb.size
 have hT3:=hT.below bb;have V:=Hh (kR _ x w3 h3 hS3 hl hT3.u);have B3:=Hh bb;have K0:=Hh k0;have K1:=Hh k1;have K2:=Hh k2;have HN:=Hh (Ai h3 (Ai hS hS3));have HT:=Hh hT3;have HW:=Hh hw;have HPP:=Hh (Ai hpp hp12);clear h hS hl hw hT bb k0 k1 k2 h3 hS3 hT3 hpp hp12;cases hv:aB 8 x with
 | false=>
  rw [hv] at V;obtain ⟨e1,e2⟩:=zF hv;have HE:=Hh (Ai e1 e2);clear hv e1 e2
  go_enter func132,ntmps132
  go_upto_region 1 with fail
  rw [←hw3,←hp2,←hp1,←hp0];clear hw3 hp2 hp1 hp0
  go_upto_region 2 with ((with_reducible refine (V.o).mono ?_);rintro e w4 ⟨rfl,hb4⟩)
  have k1:=(hb4.block _ (Aa K1.o)).trans K1.o;have k2:=(hb4.block _ (Aa K2.o)).trans K2.o;have s1:=pG k1 (.string ⟨#[]⟩);have t2:=(heap_setCell_other w4 ⟨p1,0,none⟩ p2 (.string ⟨#[]⟩) (Ne.symm HPP.o.2)).trans k2;have s2:=pG t2 (Iz 1);have t1:=(heap_setCell_other (w4.setCell ⟨p1,0,none⟩ (.string ⟨#[]⟩)) ⟨p2,0,none⟩ p1 (Iz 1) HPP.o.2).trans s1;have f1:=lL k1;have f2:=lL t2;have hb9:=((B3.o.trans (hb4.mono B3.o.size)).setCell (p:=⟨p1,0,none⟩) HPP.o.1.2.1 (.string ⟨#[]⟩)).setCell (p:=⟨p2,0,none⟩) HPP.o.1.2.2 (Iz 1);have r1:=aL t1 (j:=0) rfl;have r2:=aL s2 (j:=0) rfl;have R:=Hh (Ai (Ai r1 r2) hb9);clear k1 k2 s1 t2 s2 t1 r1 r2 hb9 hb4 q0
  go_wp2
  refine Ar (v:=.tuple #[.string ⟨#[]⟩,Iz 1]) ?_ ?_ ?_;rotate_left
  ·rfl
  ·exact ⟨by rw [HE.o.1,HE.o.2],R.o.2⟩
  ·have r1:=R.o.1.1
   have r2:=R.o.1.2;simp [results,results132,go_sem,r1,r2]
 | true=>
  rw [hv] at V;have hnu:=HW.o hv;have HV:=Hh (Ai hv hnu);clear hv hnu;obtain ⟨ib,hib,hb0,hb1,hb2⟩:=info_parts qE;have hub:=underlying69;have hust:=underlying9;have hu8:=underlying5;have HIB:=Hh hib;clear hib;refine (callsIn_wide (n:=10)).1 ?_;refine callsIn_of_wp_marks func132 rfl trivial ?_ rfl;simp only [ntmps132,Du,Ag,Bs,Nat.reduceAdd,Nat.reduceSub,Array.replicate_succ,Array.replicate_zero,List.push_toArray,List.append_toArray,Dm,Bm];refine wpIn_mono (Q:=ED _) ?_ ED.o;refine wpIn_wide.2 ?_
  go_upto_region 1 with fail
  rw [←hw3,←hp2,←hp1,←hp0];clear hw3 hp2 hp1 hp0
  go_upto_region 3 with ((with_reducible refine (V.o).mono ?_);rintro e w4 ⟨rfl,hb4⟩)
  have hB4:=B3.o.trans (hb4.mono B3.o.size);have hz4:w3.heap.size≤w4.heap.size:=hb4.size;have st5:=WSc.fresh (TW:=69) (TB:=5) w4;have b45:=(Br w4.heap.size w4).alloc (o:=.cells #[Sn] 69) (Lr _);have hz5:(w4.alloc (.cells #[Sn] 69)).heap.size=w4.heap.size+1:=by simp
  have b35:=hb4.trans (b45.mono hb4.size);have k05:=(b35.block _ (Aa K0.o)).trans K0.o;have q5:=aA k05
  go_upto_region 4 with fail
  generalize w4.alloc _=w5 at st5 b45 hz5 b35 k05 q5 ⊢;obtain ⟨g,hg⟩:∃g,g=w4.heap.size:=⟨_,rfl⟩;rw [←hg] at st5 b45 hz5 ⊢;have hg3:w3.heap.size≤g:=by omega
  clear hg hB4 hz4 hb4
  go_wp2_with (go_at_call 149;(with_reducible refine (OU _).mono ?_);rintro e w6 ⟨rfl,rfl⟩)
  have b56:=(Br w5.heap.size w5).alloc (o:=.cells (Na x a1 l1 c1 a2 l2 c2) 28) (Lr _);have kb:=Hn w5 (.cells (Na x a1 l1 c1 a2 l2 c2) 28);have st6:=st5.below b56;have b36:=b35.trans (b56.mono b35.size);have hg6:g<(w5.alloc (.cells (Na x a1 l1 c1 a2 l2 c2) 28)).heap.size:=Ll st5.lt b56.size;have hB6:g+1≤(w5.alloc (.cells (Na x a1 l1 c1 a2 l2 c2) 28)).heap.size:=hg6;have k16:=(b36.block _ (Aa K1.o)).trans K1.o;have k26:=(b36.block _ (Aa K2.o)).trans K2.o;rw [hz5] at kb;generalize w5.alloc (.cells (Na x a1 l1 c1 a2 l2 c2) 28)=w6 at kb st6 b36 hg6 hB6 k16 k26 ⊢;have HK:=Hh (Ai k16 k26);have HB6:=Hh b36;have hn6:aC D S w6 (Nc x a1 l1 c1 a2 l2 c2) x:=HN.o.1.same fun b hb=>b36.block b (HN.o.2.2 b hb)
  have hs6:wR w3.heap.size w6:=HT.o.s.below b36;clear b56 b45 b35 st5 hz5 k05 q5 k16 k26 b36;refine wpIn_wide (n:=10).1 ?_;have hgp:p1<g∧p2<g:=⟨Ll (Aa K1.o) hg3,Ll (Aa K2.o) hg3⟩;refine wpIn_rangeFunc_ownH rfl (by decide) (gf:=174) (lb:=#[.pointer (some ⟨g+1,0,none⟩)]) rfl trivial (enters_of func174 (by kernel_rfl) rfl)
   (AX (d:=8) (S:=S) w6 (fun b hb=>Ll (HN.o.2.2 b hb) hg3) kb hn6 HV.o.1 HV.o.2 hg6 hs6 hg3 9) KpW.trans (aHj (Bo hg6)) (Br _ _) (fun _=>rfl)
   (fun pre W=>WSc 69 5 (g+1) W g (kV (rU pre))∧(kV (rU pre)).length≤65536∧WFr 5 g w6 W)
   (fun c pre W=>c=.ret∧65536<(kV (rU pre)).length∧W.heap[p1]?=some (.cells #[.string ⟨#[]⟩] 9 (0,0))∧W.heap[p2]?=some (.cells #[Iz 3] 33 (0,0))∧Below w.heap.size w6 W)
   (fun pre W W' row hs hg hr=>by
    obtain ⟨q1,q2,q3⟩:=hs;exact ⟨rJ q1 hg (fun r e=>(hr r e).2),q2,rO q3 (Lr _) hg6 hg (fun r e=>(hr r e).1) q3.1.size⟩)
   (fun c pre W W' row hs hg hr=>by
    obtain ⟨hc,q1,q2,q3,q4⟩:=hs;have hne:∀ (p:Nat) (o:Obj),W.heap[p]?=some o→o.isCells=true→W'.heap[p]?=some o:=fun p o ho hc'=>(hg.block p (Aa ho) fun e=>by
     obtain ⟨-,o',ho',hc''⟩:=hr p e.symm;rw [ho] at ho';cases ho';rw [hc'] at hc'';cases hc'').trans ho
    exact ⟨hc,q1,hne _ _ q2 rfl,hne _ _ q3 rfl,q4.grown hg (by have:=HB6.o.size;have:=B3.o.size;have:=q4.size;omega) (fun r e=>by have:=(hr r e).1;have:=HB6.o.size;have:=B3.o.size;omega)⟩)
   ⟨st6,Ax _,WFr.refl _ _ _⟩
   (fun s a' W=>a'={ tmps:=#[.agg (Na x a1 l1 c1 a2 l2 c2),.pointer (some ⟨p0,0,none⟩),.pointer (some ⟨p1,0,none⟩),.pointer (some ⟨p2,0,none⟩),.pointer (some ⟨g,0,none⟩),.string s.1,.agg (Na x a1 l1 c1 a2 l2 c2),.bool true,.bool false,.agg (Na x a1 l1 c1 a2 l2 c2),.func (.func 174) #[] #[.pointer (some ⟨g+1,0,none⟩)],.string s.1,undef,undef,undef,undef,undef,undef,undef,undef,undef,undef,undef],defers:=[] })
   (fun s a' _ W W' row hs hg hr=>hs)
   ?assign ?body ?done ?stop
  case assign=>
   rintro lp pre ⟨s,hs⟩ W K hI hK
   gi_wp2
   exact hK _ _ (KeepsFrom.refl _ _) (KpW.refl _ _ _) hI rfl
  case body=>
   rintro lp pre ⟨s,hs⟩ a' W hlp ⟨r,hr⟩ ⟨hst,hle,hfr⟩ rfl hlt;dsimp only at hs ⊢;have hsn:kV (rU (pre++[(⟨s,hs⟩:PcS)]))=kV (rU pre)++s.data.toList:=by rw [tS,oU];simp [kV]
   have hss:s.data.toList.length=s.size:=by rw [Ah];rfl
   obtain ⟨L,hL⟩:∃L,L=kV (rU pre):=⟨_,rfl⟩;rw [←hL] at hst hle hsn;have HSN:=Hh (Ai hsn hss);have HFR:=Hh hfr;have HST:=Hh hst;obtain ⟨v,hk,hown,-⟩:=id hst;obtain ⟨ao,cap,rfl,-,-⟩:=dI hown;have c0:=aL hk (j:=0) rfl;have hgW:g<W.heap.size:=Aa hk;have hle':(L.length:Int)≤65536:=by omega
   have hs':(s.size:Int)≤131072:=by omega
   have HKW:=Hh hk;have HOWN:=Hh hown;clear hL hsn hss hfr hst hk hown
   by_cases hov:65536<L.length+s.size
   ·have hov':(65536:Int)<(L.length:Int)+(s.size:Int):=by omega
    have k1:=(HFR.o.1.block p1 hgp.1).trans HK.o.1;have k2:=(HFR.o.1.block p2 hgp.2).trans HK.o.2;have s1:=pG k1 (.string ⟨#[]⟩);have t2:=(heap_setCell_other W ⟨p1,0,none⟩ p2 (.string ⟨#[]⟩) (Ne.symm HPP.o.2)).trans k2;have s2:=pG t2 (Iz 3);have t1:=(heap_setCell_other (W.setCell ⟨p1,0,none⟩ (.string ⟨#[]⟩)) ⟨p2,0,none⟩ p1 (Iz 3) HPP.o.2).trans s1;have f1:=lL k1;have f2:=lL t2;have hb9:=((HFR.o.1.mono (B':=w.heap.size) (by have:=B3.o.size;omega)).setCell (p:=⟨p1,0,none⟩) HPP.o.1.2.1 (.string ⟨#[]⟩)).setCell (p:=⟨p2,0,none⟩) HPP.o.1.2.2 (Iz 3)
    have R:=Hh (Ai (Ai t1 s2) hb9);clear k1 k2 s1 t2 s2 t1 hb9
    gi_wp2
    exact ⟨((KeepsOthers.setCell _ _ _).trans (KeepsOthers.setCell _ _ _)).from _,rfl,by rw [HSN.o.1,Lg,HSN.o.2];exact hov,R.o.1.1,R.o.1.2,R.o.2⟩
   ·have hov':¬ (65536:Int)<(L.length:Int)+(s.size:Int):=by omega
    have ST:=Hh (fun (w8:World) (v':Value) (ho:w8.ownsRow (g+1) 5 1 v' (L.length+s.size) (aS L++Lib.strCells s)) (hg:W.grownBy w8 (Value.slice ao L.length cap).ownBlock)=>xI (l':=L++s.data.toList) HKW.o HOWN.o (Nat.lt_succ_self g) aKa (by rw [Lg,HSN.o.2,cP];exact ho) hg)
    have HBW:Hid (g+1≤W.heap.size):=Hh hgW;clear hgW
    gi_wp2_with (gi_at_builtin;refine pO _ rfl _ _ 69 9 rfl (g+1) 5 ib hub hust HIB.o hb0 hb1 hb2 _ L.length _ rfl HOWN.o s rfl (by unfold maxLen;omega) (by omega) HBW.o ?_;intro v' w8 hown hgr;obtain ⟨k8,st8,fr8⟩:=ST.o w8 v' hown hgr;obtain ⟨ao8,cap8,rfl,-,-⟩:=dI hown;have f8:=lL k8;have ST8:=Hh st8;have FR8:=Hh fr8;clear hown hgr k8 st8 fr8)
    exact ⟨nA FR8.o (by have:=HBW.o;omega) hg6,KpW.of FR8.o,by rw [HSN.o.1];exact ST8.o,by rw [HSN.o.1,Lg,HSN.o.2];omega,HFR.o.trans FR8.o⟩
  case done=>
   rintro DD xs W hD hxs ⟨hst,hle,hfr⟩ hK;rw [hxs] at hst hle;rw [EV 8 x HV.o.1] at hst hle;obtain ⟨e1,e2⟩:=pI HV.o.1 (show ¬65536<(bL 8 x).length by omega)
   have HE:=Hh (Ai e1 e2);obtain ⟨L,hL⟩:∃L,L=bL 8 x:=⟨_,rfl⟩;rw [←hL] at hst e1;have HL:=Hh hL;obtain ⟨v,hk,hown,-⟩:=id hst;have hcv:=eX (P:=prog) W 69 9 5 (g+1) _ v L hown hub hu8 hust;obtain ⟨ao,cap,rfl,-,-⟩:=dI hown;have c0:=aL hk (j:=0) rfl;have k1:=(hfr.1.block p1 hgp.1).trans HK.o.1;have k2:=(hfr.1.block p2 hgp.2).trans HK.o.2;have s1:=pG k1 (.string ⟨L.toArray⟩);have t2:=(heap_setCell_other W ⟨p1,0,none⟩ p2 (.string ⟨L.toArray⟩) (Ne.symm HPP.o.2)).trans k2;have s2:=pG t2 (Iz 0);have t1:=(heap_setCell_other (W.setCell ⟨p1,0,none⟩ (.string ⟨L.toArray⟩)) ⟨p2,0,none⟩ p1 (Iz 0) HPP.o.2).trans s1;have f1:=lL k1;have f2:=lL t2;have hd1:DD ≠ p1:=by have:=hgp.1;omega
   have hd2:DD ≠ p2:=by have:=hgp.2;omega
   have hK1:=(heap_setCell_other W ⟨p1,0,none⟩ DD (.string ⟨L.toArray⟩) hd1).trans hK;have hK2:=(heap_setCell_other (W.setCell ⟨p1,0,none⟩ (.string ⟨L.toArray⟩)) ⟨p2,0,none⟩ DD (Iz 0) hd2).trans hK1;have hbW:Below w.heap.size w W:=(B3.o.trans (HB6.o.mono B3.o.size)).trans (hfr.1.mono (by have:=B3.o.size;omega))
   have hb9:=(hbW.setCell (p:=⟨p1,0,none⟩) HPP.o.1.2.1 (.string ⟨L.toArray⟩)).setCell (p:=⟨p2,0,none⟩) HPP.o.1.2.2 (Iz 0);have hdw:w.heap.size≤DD:=by have:=B3.o.size;have:=HB6.o.size;omega
   have R:=Hh (Ai (Ai t1 s2) (Ai hb9 (Ai hK2 hdw)));clear k1 k2 s1 t2 s2 t1 hb9 hK1 hK2 hbW hst hk hown hle hd1 hd2 hK hfr e1 e2 hL
   go_wp2
   show bodyPostM _ _ _ _ _ Exit.ret _ _
   have hgr:=grownBy_putObj' ((W.setCell ⟨p1,0,none⟩ (.string ⟨L.toArray⟩)).setCell ⟨p2,0,none⟩ (Iz 0)) DD (.deferred none);refine ⟨by simp,.inl ⟨_,_,rfl,run_takeDeferred R.o.2.2.1,?_⟩⟩
   have hd1:DD ≠ p1:=by have:=hgp.1;omega
   have hd2:DD ≠ p2:=by have:=hgp.2;omega
   have r1:=aL ((hgr.block p1 (Aa R.o.1.1) (fun e=>hd1 (Ab e).symm)).trans R.o.1.1) (j:=0) rfl
   have r2:=aL ((hgr.block p2 (Aa R.o.1.2) (fun e=>hd2 (Ab e).symm)).trans R.o.1.2) (j:=0) rfl
   refine ⟨.tuple #[.string ⟨L.toArray⟩,Iz 0],by simp [results,results132,go_sem,r1,r2],by rw [HE.o.1,HE.o.2,←HL.o];rfl,R.o.2.1.grown hgr R.o.2.1.size (fun r e=>by cases e;exact R.o.2.2.2)⟩
  case stop=>
   rintro DD c pre W hD hpre ⟨rfl,hle,s1,s2,hbW⟩ hK;have hgr:=grownBy_putObj' W DD (.deferred none);have hlen:=Ll hle (aFl HV.o.1 _ hpre);obtain ⟨e1,e2⟩:=tZ HV.o.1 hlen;have hdw:w.heap.size≤DD:=by have:=B3.o.size;have:=HB6.o.size;omega
   have hb9:=(B3.o.trans (HB6.o.mono B3.o.size)).trans hbW;have hd1:DD ≠ p1:=by have:=hgp.1;omega
   have hd2:DD ≠ p2:=by have:=hgp.2;omega
   have r1:=aL ((hgr.block p1 (Aa s1) (fun e=>hd1 (Ab e).symm)).trans s1) (j:=0) rfl
   have r2:=aL ((hgr.block p2 (Aa s2) (fun e=>hd2 (Ab e).symm)).trans s2) (j:=0) rfl
   refine wpIn_ret ?_
   show bodyPostM _ _ _ _ _ Exit.ret _ _
   refine ⟨by simp,.inl ⟨_,_,rfl,run_takeDeferred hK,?_⟩⟩
   refine ⟨.tuple #[.string ⟨#[]⟩,Iz 3],by simp [results,results132,go_sem,r1,r2],by rw [e1,e2],hb9.grown hgr hb9.size (fun r e=>by cases e;exact hdw)⟩
end Go.Proofs.YtncdpanfefnjlaaGreatDoor