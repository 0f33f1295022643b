/- The writer of the third serialisation: the pieces of a node, one after the other. -/
import Derived.Test.YtcklddldejejcaaGreatDoorJrhas
import Derived.Test.YtcklddldejejcaaGreatDoorMho
import Derived.Test.YtcklddldejejcaaGreatDoorMyd
set_option linter.unusedVariables false
set_option linter.unusedSimpArgs false
set_option maxHeartbeats 6400000
set_option maxRecDepth 100000
namespace Go.Proofs.YtcklddldejejcaaGreatDoor
open Go Go.ChangeShapes Go.WideShapes Go.ChangeAt Go.RowKit Go.Shelf
attribute [local go_sem] Oper.semAt_some
theorem yieldAt_any {F:Fence} (hd:F.depth=none) {m:Nat} (m':Nat) {P:Program} {l:Nat} {args:Array Value} {W:World} {R:Ending→World→Prop} (h:YieldAt F m P l args W R):YieldAt F m' P l args W R:=by
 obtain ⟨fn,tmps,assign,body,hy,h1,h2⟩:=h
 exact ⟨fn,tmps,assign,body,hy,h1,fun c cs _=>h2 c cs (fun d h=>by rw [hd] at h;cases h)⟩
theorem tnuM:(28:TypeId) ≠ 5:=by decide
structure YpRound (w0:World) (g l N:Nat) (J Jx:List ByteArray→World→Prop):Prop where
 alloc:∀pre W W',J pre W→W.grownBy W' none→J pre W'
 room:g<w0.heap.size
 round:∀pre (x:ByteArray) W,x.size≤131072→J pre W→pre.length<N→YieldAt Fence.wide 10 Tryz.prog l #[.string x] W fun e W'=>(e=.returned (.bool true)∧J (pre++[x]) W'∧KpW 5 g W W')∨(e=.returned (.bool false)∧Jx (pre++[x]) W')
def YpPost (g:Nat) (T pre:List ByteArray) (J Jx:List ByteArray→World→Prop) (W:World) (e:Ending) (W':World):Prop:=(e=.returned (.bool true)∧J (pre++T) W'∧KpW 5 g W W')∨(e=.returned (.bool false)∧∃q,q <+: T∧Jx (pre++q) W')
def YpAt (w0:World) (B g l N:Nat) (S:Nat→Prop) (J Jx:List ByteArray→World→Prop) (d:Nat):Prop:=∀ (D:Nat) (cs:List Value) (x:ND) (n:Nat) (pre:List ByteArray) (W:World),NodeIn D S w0 cs x→validN d x=true→numsB d x=true→Below g w0 W→g<W.heap.size→J pre W→pre.length+(pcs d x).length≤N →
 CallsIn Fence.wide n Tryz.prog 230 #[.agg cs.toArray,.func (.yield l) #[] #[]] W (YpPost g (pcs d x) pre J Jx W)
theorem yp_step {w0:World} {B g l N:Nat} {S:Nat→Prop} {J Jx:List ByteArray→World→Prop} (hS:∀b,S b→b<g) (hT:SclB B w0) (hBg:B≤g) (R:YpRound w0 g l N J Jx) {d:Nat} (IH:YpAt w0 B g l N S J Jx d):YpAt w0 B g l N S J Jx (d+1):=by
 intro D cs x n pre W h hv hn hW hgW hJ hN
 obtain ⟨a1,l1,c1,a2,l2,c2,rfl⟩:=h.slices
 cases D with
 | zero=>exact h.elim
 | succ D=>
 have hxn:NodeIn (D+1) S W [.int .i64 x.kind,.bool x.bool,.int .i64 x.num,.string x.text,.slice a1 l1 c1,.slice a2 l2 c2] x:=h.same fun b hb=>hW.block b (hS b hb)
 have HD:=Hh (fun (wx:World) (hb:Below W.heap.size W wx)=>mheadof_any (B:=B) _ x wx (hxn.same fun b hb'=>hb.block b (Nat.lt_trans (hS b hb') hgW)) (fun b hb'=>Ll (Nat.lt_trans (hS b hb') hgW) hb.size) hv hn ((hT.below (hW.mono hBg)).below (hb.mono (by omega))))
 have bA:=(Br W.heap.size W).alloc (o:=.cells #[.int .i64 x.kind,.bool x.bool,.int .i64 x.num,.string x.text,.slice a1 l1 c1,.slice a2 l2 c2] 28) (Lr _)
 have kA:=Hn W (.cells #[.int .i64 x.kind,.bool x.bool,.int .i64 x.num,.string x.text,.slice a1 l1 c1,.slice a2 l2 c2] 28)
 have hJA:=R.alloc pre _ _ hJ (World.grownBy_alloc W (.cells #[.int .i64 x.kind,.bool x.bool,.int .i64 x.num,.string x.text,.slice a1 l1 c1,.slice a2 l2 c2] 28) none)
 obtain ⟨p,hp⟩:∃p,p=W.heap.size:=⟨_,rfl⟩
 have hpg:p ≠ g:=by omega
 rw [←hp] at kA
 obtain ⟨hd,hhd⟩:∃t,t=bC (headP (pHd x) (pVal x)):=⟨_,rfl⟩
 rw [←hhd] at HD
 have hpl:2≤(pcs (d+1) x).length:=by rw [pcs_succ];simp
 have hz1:hd.size≤131072:=by rw [hhd,bC_size];unfold headP;rw [List.length_cons,bigL_length];have:=pHd_le x;omega
 have hz2:x.text.size≤131072:=by have:=textOk_le (validN_parts hv).2.2.1;omega
 have HX:=Hh (Ai h (Ai hv hn))
 have HW:=Hh hW
 have HH:=Hh hhd
 have HN:=Hh hN
 clear h hv hn hW hhd hxn
 refine callsIn_of_wp Tryz.func230 rfl trivial ?_ rfl
 simp only [Tryz.ntmps230,List.size_toArray,List.length_cons,List.length_nil,Nat.reduceAdd,Nat.reduceSub,Array.replicate_succ,Array.replicate_zero,List.push_toArray,List.append_toArray,List.nil_append,List.cons_append]
 gi_wp2
 rw [←hp]
 have HPG:=Hh hpg
 have HBA:Hid (g<(W.alloc (.cells #[.int .i64 x.kind,.bool x.bool,.int .i64 x.num,.string x.text,.slice a1 l1 c1,.slice a2 l2 c2] 28)).heap.size):=Hh (Ll hgW bA.size)
 have HD':=Hh (HD.out _ bA)
 have BA:=Hh bA
 clear hp bA HD
 generalize W.alloc _=wa at kA hJA HBA HD' BA ⊢
 refine ⟨trivial,fun h=>(by cases h),(callsIn_wide.2 HD'.out).mono ?_⟩
 rintro e w3 ⟨rfl,hb3⟩
 have hJ3:=R.alloc pre _ _ hJA (grown_of_below hb3 (Lr _) none)
 have k3:=(hb3.block _ (lt_of_block kA)).trans kA
 have hg3:g<w3.heap.size:=Ll HBA.out hb3.size
 have hk3:KpW 5 g W w3:=KpW.below (BA.out.trans (hb3.mono BA.out.size)) (Nat.le_of_lt hgW)
 obtain ⟨fn,tmps,assign,body,hy,hR⟩:=yieldAt_any rfl (n - 1) (R.round pre hd w3 hz1 hJ3 (by omega))
 have HR:=Hh hR
 have K3:=Hh k3
 have HK3:=Hh hk3
 have q3:=six_of k3
 clear hJ3 k3 hk3 hR HD' BA HBA hb3 hJA kA hg3
 gi_wp2
 refine ⟨fun h=>(by cases h),HR.out.mono ?_⟩
 rintro e W4 (⟨rfl,hJ4,hk4⟩ | ⟨rfl,hx4⟩)
 rotate_left
 ·have HX4:=Hh hx4
  clear hx4 HR hy q3
  gi_wp2
  refine ⟨fun _ h=>(by cases h),?_⟩
  gi_wp2
  go_ret
  exact .inr ⟨rfl,[hd],⟨_,by rw [pcs_succ,HH.out];rfl⟩,HX4.out⟩
 have k4:=hk4.2 _ _ _ _ HPG.out tnuM K3.out
 have q4:=six_of k4
 have HK4:=Hh (HK3.out.trans hk4)
 obtain ⟨fn2,tmps2,assign2,body2,hy2,hR2⟩:=yieldAt_any rfl (n - 1) (R.round (pre++[hd]) x.text W4 hz2 hJ4 (by rw [Lg];simp;omega))
 have HR2:=Hh hR2
 have K4:=Hh k4
 clear hJ4 hk4 hR2 HR hy q3 k4
 gi_wp2
 refine ⟨fun h=>(by cases h),HR2.out.mono ?_⟩
 rintro e W5 (⟨rfl,hJ5,hk5⟩ | ⟨rfl,hx5⟩)
 rotate_left
 ·have HX5:=Hh hx5
  clear hx5 HR2 hy2 q4
  gi_wp2
  go_ret
  exact .inr ⟨rfl,[hd,x.text],⟨_,by rw [pcs_succ,HH.out];rfl⟩,by have:=HX5.out;rw [List.append_assoc] at this;exact this⟩
 have K5:=Hh (hk5.2 _ _ _ _ HPG.out tnuM K4.out)
 have HK5:=Hh (HK4.out.trans hk5)
 have q5:=six_of K5.out
 obtain ⟨hx0,hv,hn⟩:=HX.out
 obtain ⟨vn,vi,e,-,hns,his⟩:=hx0
 simp only [List.cons.injEq,and_true,true_and] at e
 obtain ⟨rfl,rfl⟩:=e
 obtain ⟨hi,hl,-,hnm⟩:=validN_parts hv
 obtain ⟨-,hni⟩:=numsB_parts hn
 have hnl:=names_len hv
 have hcl:=chk_len (V:=pcs d) hnl
 obtain ⟨ai,ci,ei,-,-,-⟩:=id his
 have hl2:l2=x.items.length:=by cases ei;rfl
 subst hl2
 clear ei
 have HI:=Hh his
 have HS:=Hh hS
 have HV:=Hh (Ai hi hni)
 have HNS:=Hh (Ai hns (Ai hnm hnl))
 have HCL:=Hh hcl
 have HR:=Hh R
 have HIH:=Hh IH
 have HT:=Hh hT
 have HL:=Hh hN
 have H5:Hid (J (pre++uptoP d x 0) W5):=Hh (by rw [upto_zero,←HH.out];have:=hJ5;rw [List.append_assoc] at this;exact this)
 clear hv hn hi hnm hni hnl hcl his hns hS R IH hT hN hJ5 hk5 HR2 hy2 q4 hJ hpl
 gi_wp2
 gi_loopw [22] (fun i wr=>∃ (j:Nat),j≤x.items.length∧i=.int .i64 (j:Int)∧J (pre++uptoP d x j) wr∧KpW 5 g W5 wr) (fun i _=>x.items.length - (intOf i).toNat)
 case atStart=>exact ⟨0,Nat.zero_le _,rfl,H5.out,KpW.refl _ _ _⟩
 case round=>
  obtain ⟨j,hj,rfl,hJp,hkp⟩:=hrel
  have kr:=hkp.2 _ _ _ _ hpg tnuM K5.out
  have hWr:Below g w0 wr:=HW.out.trans (HK5.out.1.trans hkp.1)
  have hgr:g<wr.heap.size:=Ll hgW (Nat.le_trans HK5.out.1.size hkp.1.size)
  by_cases hlt:j<x.items.length
  ·have hlt':(j:Int)<(x.items.length:Int):=by omega
   have hj0:(0:Int)≤(j:Int):=by omega
   obtain ⟨-,-,-,b,off,y,a3,l3,c3,a4,l4,c4,rfl,hSb,hx,hnd,m0,m1,m2,m3,m4,m5⟩:=HI.out.at hlt
   have hbg:=HS.out b hSb
   have cc:∀q v,w0.cell? ⟨b,off+j * 6+q,none⟩=some v→wr.cell? ⟨b,off+j * 6+q,none⟩=some v:=fun q v hq=>(hWr.cell (p:=⟨b,off+j * 6+q,none⟩) hbg).trans hq
   have e0:=cc 0 _ m0
   have e1:=cc 1 _ m1
   have e2:=cc 2 _ m2
   have e3:=cc 3 _ m3
   have e4:=cc 4 _ m4
   have e5:=cc 5 _ m5
   rw [Nat.add_zero] at e0
   have hym:=List.mem_of_getElem? hx
   have bA:=(Br wr.heap.size wr).alloc (o:=.cells #[.int .i64 y.kind,.bool y.bool,.int .i64 y.num,.string y.text,.slice a3 l3 c3,.slice a4 l4 c4] 28) (Lr _)
   have kY:=Hn wr (.cells #[.int .i64 y.kind,.bool y.bool,.int .i64 y.num,.string y.text,.slice a3 l3 c3,.slice a4 l4 c4] 28)
   have hJA:=HR.out.alloc _ _ _ hJp (World.grownBy_alloc wr (.cells #[.int .i64 y.kind,.bool y.bool,.int .i64 y.num,.string y.text,.slice a3 l3 c3,.slice a4 l4 c4] 28) none)
   have hKA:KpW 5 g wr (wr.alloc (.cells #[.int .i64 y.kind,.bool y.bool,.int .i64 y.num,.string y.text,.slice a3 l3 c3,.slice a4 l4 c4] 28)):=KpW.below bA (Nat.le_of_lt hgr)
   have kX:=(bA.block _ (lt_of_block kr)).trans kr
   have qX:=six_of kX
   have HXB:=Hh kX
   have HYB:=Hh kY
   have HKA:=Hh hKA
   have HKP:=Hh hkp
   have HWA:Hid (Below g w0 (wr.alloc (.cells #[.int .i64 y.kind,.bool y.bool,.int .i64 y.num,.string y.text,.slice a3 l3 c3,.slice a4 l4 c4] 28))∧g<(wr.alloc (.cells #[.int .i64 y.kind,.bool y.bool,.int .i64 y.num,.string y.text,.slice a3 l3 c3,.slice a4 l4 c4] 28)).heap.size):=Hh ⟨hWr.trans hKA.1,Ll hgr bA.size⟩
   have HYN:Hid (wr.heap.size ≠ g):=Hh (by omega)
   clear m0 m1 m2 m3 m4 m5 cc hJp hkp hKA kX kr bA hWr
   by_cases hk5:x.kind=5
   ·obtain ⟨hns,hnm,hnl⟩:=HNS.out
    have hnl:=hnl hk5
    obtain ⟨an,cn,en,hn2,hn3,hSn⟩:=hns
    have hl1:l1=x.names.length∧a1=an:=by cases en;exact ⟨rfl,rfl⟩
    obtain ⟨rfl,rfl⟩:=hl1
    clear en
    obtain ⟨sn,hsn⟩:∃s,x.names[j]?=some s:=⟨_,List.getElem?_eq_getElem (by omega)⟩
    obtain ⟨bn,on,hab,hSbn,hcn,hsz⟩:=hSn j sn hsn
    subst hab
    have hltn:(j:Int)<(x.names.length:Int):=by omega
    have hcnA:=(HWA.out.1.cell (p:=⟨bn,on+j,none⟩) (HS.out bn hSbn)).trans hcn
    have hvy:=HV.out.1 y hym
    have hc:=chk_map (V:=pcs d) hk5 hx hsn
    obtain ⟨e',rfl⟩:∃e',d=e'+1:=by
     cases d with
     | zero=>cases hvy
     | succ d=>exact ⟨d,rfl⟩
    have hD1:1≤D:=by
     cases D with
     | zero=>exact hnd.elim
     | succ D=>omega
    have htx:=txM_ok (d:=e') (hnm sn (List.mem_of_getElem? hsn))
    have hlen:(pre++uptoP (e'+1) x j).length+((txtP sn).length+(pcs (e'+1) y).length)≤N:=by
     have h1:=(upto_pre (e'+1) x (j+1)).length_le
     rw [upto_succ hc,Lg,Lg] at h1
     have h0:=HN.out
     rw [Lg];omega
    have HNM:=Hh (fun (wx:World) (hb:Below (wr.alloc (.cells #[.int .i64 y.kind,.bool y.bool,.int .i64 y.num,.string y.text,.slice a3 l3 c3,.slice a4 l4 c4] 28)).heap.size (wr.alloc (.cells #[.int .i64 y.kind,.bool y.bool,.int .i64 y.num,.string y.text,.slice a3 l3 c3,.slice a4 l4 c4] 28)) wx)=>HIH.out D [.int .i64 3,.bool false,.int .i64 0,.string sn,.slice none 0 0,.slice none 0 0] (txM sn) (n - 1) (pre++uptoP (e'+1) x j) wx ((node_leaf S w0 3 false 0 sn hsz).deeper hD1) htx.1 htx.2 (HWA.out.1.trans (hb.mono (Nat.le_of_lt HWA.out.2))) (Ll HWA.out.2 hb.size) (HR.out.alloc _ _ _ hJA (grown_of_below hb (Lr _) none)) (by rw [pcs_txM];omega))
    rw [pcs_txM] at HNM
    have HNI:=Hh (fun (wx:World) (hb:Below g w0 wx) (hgx:g<wx.heap.size) (hjx:J (pre++uptoP (e'+1) x j++txtP sn) wx)=>HIH.out D _ y (n - 1) _ wx hnd hvy (HV.out.2 y hym) hb hgx hjx (by rw [Lg];omega))
    have HC:=Hh hc
    have qY:=six_of kY
    have hk5':(x.kind == 5)=true:=by simpa using hk5
    clear hk5 hc hlen hJA hnd hx hym kY q5 hvy hcn hsz hsn htx hn2 hn3 hSn hnm hnl
    gi_wp2
    refine ⟨trivial,fun h=>(by cases h),(callsIn_wide.2 (ntext_any sn _)).mono ?_⟩
    rintro e w7 ⟨rfl,hb7⟩
    have HN7:=Hh (HNM.out _ hb7)
    have HK7:=Hh (KpW.below (TB:=5) hb7 (Nat.le_of_lt HWA.out.2))
    have HS7:=Hh hb7.size
    clear hb7 HNM
    gi_wp2
    refine ⟨trivial,fun h=>(by cases h),HN7.out.mono ?_⟩
    rintro e W8 (⟨rfl,hJ8,hk8⟩ | ⟨rfl,q,hq,hx8⟩)
    ·have hk7:=HK7.out.trans hk8
     have q8:=six_of (hk7.2 _ _ _ _ HYN.out tnuM HYB.out)
     have HNI':=Hh (HNI.out W8 (HWA.out.1.trans hk7.1) (Ll HWA.out.2 hk7.1.size) hJ8)
     have HK8:=Hh hk7
     clear hJ8 hk8 hk7 HN7 HNI qX qY
     gi_wp2
     refine ⟨trivial,fun h=>(by cases h),HNI'.out.mono ?_⟩
     rintro e W6 (⟨rfl,hJ6,hk6⟩ | ⟨rfl,q,hq,hx6⟩)
     ·have HJ6:Hid (J (pre++uptoP (e'+1) x (j+1)) W6):=Hh (by rw [upto_succ HC.out,←List.append_assoc,←List.append_assoc];exact hJ6)
      have HK6:=Hh hk6
      clear hJ6 hk6 HNI' q8
      gi_wp2
      go_roundw
      case rel=>exact ⟨j+1,by omega,by go_num,HJ6.out,HKP.out.trans (HKA.out.trans (HK8.out.trans HK6.out))⟩
      case measure=>simp [intOf] <;> omega
     ·have HX6:=Hh hx6
      have HQ:=Hh hq
      clear hx6 hq HNI' q8
      gi_wp2
      go_ret
      exact .inr ⟨rfl,uptoP (e'+1) x j++(txtP sn++q),upto_part HC.out ((List.prefix_append_right_inj _).2 HQ.out),by rw [←List.append_assoc,←List.append_assoc];exact HX6.out⟩
    ·have HX8:=Hh hx8
     have HQ:=Hh hq
     clear hx8 hq HN7 HNI qX qY
     gi_wp2
     go_ret
     exact .inr ⟨rfl,uptoP (e'+1) x j++q,upto_part HC.out (HQ.out.trans (List.prefix_append _ _)),by rw [←List.append_assoc];exact HX8.out⟩
   ·have hk5':(x.kind == 5)=false:=by simpa using hk5
    have hc:=chk_list (V:=pcs d) hk5 hx
    have hlen:(pre++uptoP d x j).length+(pcs d y).length≤N:=by
     have h1:=(upto_pre d x (j+1)).length_le
     rw [upto_succ hc,Lg] at h1
     have h0:=HN.out
     rw [Lg];omega
    have HN':=Hh (HIH.out D _ y (n - 1) _ _ hnd (HV.out.1 y hym) (HV.out.2 y hym) HWA.out.1 HWA.out.2 hJA hlen)
    have HC:=Hh hc
    have qY:=six_of kY
    clear hc hlen hJA hnd hx hym kY q5
    gi_wp2
    refine ⟨trivial,?_⟩
    gi_wp2
    refine ⟨trivial,?_⟩
    gi_wp2
    refine ⟨trivial,fun h=>(by cases h),HN'.out.mono ?_⟩
    rintro e W6 (⟨rfl,hJ6,hk6⟩ | ⟨rfl,q,hq,hx6⟩)
    ·have HJ6:Hid (J (pre++uptoP d x (j+1)) W6):=Hh (by rw [upto_succ HC.out,←List.append_assoc];exact hJ6)
     have HK6:=Hh hk6
     clear hJ6 hk6 HN' qY qX
     gi_wp2
     go_roundw
     case rel=>exact ⟨j+1,by omega,by go_num,HJ6.out,HKP.out.trans (HKA.out.trans HK6.out)⟩
     case measure=>simp [intOf] <;> omega
    ·have HX6:=Hh hx6
     have HQ:=Hh hq
     clear hx6 hq HN' qY qX
     gi_wp2
     go_ret
     exact .inr ⟨rfl,uptoP d x j++q,upto_part HC.out HQ.out,by rw [←List.append_assoc];exact HX6.out⟩
  ·have hge:¬ (j:Int)<(x.items.length:Int):=by omega
   have HU:Hid (uptoP d x j=pcs (d+1) x):=Hh (upto_all (by rw [HCL.out];omega))
   rw [HU.out] at hJp
   have HJ9:=Hh hJp
   have HKP:=Hh hkp
   clear hJp hkp
   gi_wp2
   go_ret
   exact .inl ⟨rfl,HJ9.out,HK5.out.trans HKP.out⟩
theorem yp_any {w0:World} {B g l N:Nat} {S:Nat→Prop} {J Jx:List ByteArray→World→Prop} (hS:∀b,S b→b<g) (hT:SclB B w0) (hBg:B≤g) (R:YpRound w0 g l N J Jx):∀d,YpAt w0 B g l N S J Jx d
 | 0=>fun D cs x n pre W h hv=>by cases hv
 | d+1=>yp_step hS hT hBg R (yp_any hS hT hBg R d)
abbrev PcS:={ s:ByteArray // s.size≤131072 }
def strP (l:List PcS):List ByteArray:=l.map fun s=>s.1
theorem strP_snoc (l:List PcS) (s:PcS):strP (l++[s])=strP l++[s.1]:=by simp [strP]
theorem pieces1_stops {D d B:Nat} {S:Nat→Prop} {x:ND} {a1 a2:Option Addr} {l1 c1 l2 c2:Nat} (w0:World) {g b1:Nat} (hS:∀b,S b→b<g)
 (hb1:w0.heap[b1]?=some (.cells #[.int .i64 x.kind,.bool x.bool,.int .i64 x.num,.string x.text,.slice a1 l1 c1,.slice a2 l2 c2] 28 (0,0))) (h:NodeIn D S w0 [.int .i64 x.kind,.bool x.bool,.int .i64 x.num,.string x.text,.slice a1 l1 c1,.slice a2 l2 c2] x) (hv:validN d x=true) (hn:numsB d x=true) (hgw:g<w0.heap.size) (hT:SclB B w0) (hBg:B≤g) (n:Nat) :
 SeqStopsK Fence.wide n Tryz.prog 229 #[.pointer (some ⟨b1,0,none⟩)] (fun s:PcS=>#[.string s.1]) (KpW 5 g) (fun xs=>strP xs=pcs d x) (fun pre=>strP pre <+: pcs d x) (pcs d x).length w0:=fun l J Jx W hW hJ _ hY h0=>by
 have R:YpRound w0 g l (pcs d x).length (fun q W=>∃xs,strP xs=q∧J xs W) (fun q W=>∃xs,strP xs=q∧Jx xs W):=⟨fun pre W W' hj hg=>by
  obtain ⟨xs,e,hj⟩:=hj
  exact ⟨xs,e,hJ xs W W' none hj hg (fun r e=>by cases e)⟩,hgw,fun pre y W hy hj hl=>by
  obtain ⟨xs,rfl,hj⟩:=hj
  refine yieldAt_any rfl 10 ((hY xs ⟨y,hy⟩ W hj (by simpa [strP] using hl)).mono ?_)
  rintro e W' (⟨rfl,h1,h2⟩ | ⟨rfl,h1⟩)
  ·exact .inl ⟨rfl,⟨_,strP_snoc _ _,h1⟩,h2⟩
  ·exact .inr ⟨rfl,_,strP_snoc _ _,h1⟩⟩
 have HY:=Hh (yp_any hS hT hBg R d D _ x (n - 1) [] W h hv hn (hW.mono (Nat.le_of_lt hgw)) (Ll hgw hW.size) ⟨[],rfl,h0⟩ (by simp))
 have q1:=six_of ((hW.block _ (lt_of_block hb1)).trans hb1)
 clear R hJ hY h0 hb1 h
 refine callsIn_of_wp Tryz.func229 rfl trivial ?_ rfl
 simp only [Tryz.ntmps229,List.size_toArray,List.length_cons,List.length_nil,Nat.reduceAdd,Nat.reduceSub,Array.replicate_succ,Array.replicate_zero,List.push_toArray,List.append_toArray,List.nil_append,List.cons_append]
 gi_wp2
 refine ⟨trivial,fun h=>(by cases h),HY.out.mono ?_⟩
 rintro e W1 (⟨rfl,⟨xs,hxs,hJ1⟩,-⟩ | ⟨rfl,q,hq,xs,hxs,hx⟩)
 ·gi_wp2
  go_end0
  exact ⟨⟨_,rfl⟩,.inl ⟨xs,by simpa using hxs,hJ1⟩⟩
 ·gi_wp2
  go_end0
  exact ⟨⟨_,rfl⟩,.inr ⟨xs,by rw [hxs];simpa using hq,hx⟩⟩
theorem pieces_any {a1 a2:Option Addr} {k n:Int} {b:Bool} {t:ByteArray} {l1 c1 l2 c2:Nat} (w:World):Calls Tryz.prog 202 #[.agg #[.int .i64 k,.bool b,.int .i64 n,.string t,.slice a1 l1 c1,.slice a2 l2 c2]] w fun e w'=>e=.returned (.func (.func 229) #[] #[.pointer (some ⟨w.heap.size,0,none⟩)])∧w'=w.alloc (.cells #[.int .i64 k,.bool b,.int .i64 n,.string t,.slice a1 l1 c1,.slice a2 l2 c2] 28):=by
 go_enter Tryz.func202,Tryz.ntmps202
 go_wp2
 go_ret
 exact ⟨rfl,rfl⟩
end Go.Proofs.YtcklddldejejcaaGreatDoor