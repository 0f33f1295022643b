/- The parts of a node, one after the other: what the iterator does with a round that keeps all but the writer's bytes. -/
import Derived.Test.YtcklddldejejcaaGreatDoorJrhas
set_option linter.unusedVariables false
set_option linter.unusedSimpArgs false
set_option maxHeartbeats 6400000
set_option maxRecDepth 100000
namespace Go.Proofs.YtcklddldejejcaaGreatDoor
open Go Go.ChangeShapes Go.WideShapes Go.ChangeAt Go.RowKit Go.Shelf
attribute [local go_sem] Oper.semAt_some
abbrev PartC (D d:Nat) (S:Nat→Prop) (w:World):={ p:List Value × ND // NodeIn D S w p.1 p.2∧validN d p.2=true∧numsB d p.2=true }
def ndsOf {D d:Nat} {S:Nat→Prop} {w:World} (l:List (PartC D d S w)):List ND:=l.map fun p=>p.1.2
theorem ndsOf_snoc {D d:Nat} {S:Nat→Prop} {w:World} (l:List (PartC D d S w)) (p:PartC D d S w):ndsOf (l++[p])=ndsOf l++[p.1.2]:=by simp [ndsOf]
theorem parts1_list {D d:Nat} {S:Nat→Prop} {k z:Int} {bb:Bool} {t:ByteArray} {a1 a2:Option Addr} {l1 c1 l2 c2:Nat} (its:List ND) (w0:World) {g b1:Nat} (hS:∀b,S b→b<g) (hgb:b1 ≠ g)
 (hb1:w0.heap[b1]?=some (.cells #[.int .i64 k,.bool bb,.int .i64 z,.string t,.slice a1 l1 c1,.slice a2 l2 c2] 28 (0,0))) (hk5:k ≠ 5) (his:NodesIn (NodeIn D S w0) S w0 (.slice a2 l2 c2) its) (hv:∀y,y ∈ its→validN d y=true∧numsB d y=true) (hlen:its.length≤256) (hgw:g<w0.heap.size) (n:Nat) (hn1:1≤n)
 (l:Nat) (J Jx:List (PartC D d S w0)→World→Prop) (W:World) (hW:Below w0.heap.size w0 W) (hJ:AbidesFrom W.heap.size J)
 (hY:∀pre x W1,J pre W1→pre.length<600→YieldAt Fence.wide (n - 1) Tryz.prog l #[.agg x.1.1.toArray] W1 fun e W'=>(e=.returned (.bool true)∧J (pre++[x]) W'∧KpC g W1 W')∨(e=.returned (.bool false)∧Jx (pre++[x]) W')) (h0:J [] W) :
 CallsIn Fence.wide n Tryz.prog 247 #[.func (.yield l) #[] #[],.pointer (some ⟨b1,0,none⟩)] W fun e W'=>(∃v,e=.returned v)∧((∃xs,ndsOf xs=its∧J xs W')∨(∃pre,ndsOf pre <+: its∧Jx pre W')):=by
 have hkW:=(hW.block b1 (lt_of_block hb1)).trans hb1
 have hgW:g<W.heap.size:=Ll hgw hW.size
 obtain ⟨ai,ci,ei,-,-,-⟩:=id his
 have hl2:l2=its.length:=by cases ei;rfl
 subst hl2
 clear ei
 have HI:=Hh his
 have HV:=Hh hv
 have HB:=Hh hb1
 have HW:=Hh hW
 have HJ:=Hh hJ
 have HY:=Hh hY
 have HS:=Hh hS
 have HK:=Hh hkW
 have ck:=six_of hkW
 clear his hv hb1 hW hJ hY hS hkW
 refine callsIn_of_wp Tryz.func247 rfl trivial ?_ rfl
 simp only [Tryz.ntmps247,List.size_toArray,List.length_cons,List.length_nil,Nat.reduceAdd,Nat.reduceSub,Array.replicate_succ,Array.replicate_zero,List.push_toArray,List.append_toArray,List.nil_append,List.cons_append]
 gi_wp2
 gi_loopw [8] (fun i wr=>∃ (j:Nat),j≤its.length∧i=.int .i64 (j:Int)∧(∃pre:List (PartC D d S w0),ndsOf pre=its.take j∧J pre wr)∧KpC g W wr) (fun i _=>its.length - (intOf i).toNat)
 case atStart=>exact ⟨0,Nat.zero_le _,rfl,⟨[],rfl,h0⟩,KpW.refl _ _ _⟩
 case round=>
  obtain ⟨j,hj,rfl,⟨pre,hpre,hJp⟩,hkp⟩:=hrel
  have hpl:pre.length=j:=by
   have:=congrArg List.length hpre
   rw [List.length_take] at this
   simp [ndsOf] at this
   omega
  have HPRE:=Hh hpre
  have HPL:=Hh hpl
  have HKP:=Hh hkp
  have ckr:=six_of (hkp.2 _ _ _ _ hgb tnu HK.out)
  by_cases hlt:j<its.length
  ·have hlt':(j:Int)<(its.length:Int):=by omega
   have hj0:(0:Int)≤(j:Int):=by omega
   obtain ⟨-,-,-,b,off,y,a3,l3,c3,a4,l4,c4,rfl,hSb,hx,hnd,k0,k1,k2,k3,k4,k5⟩:=HI.out.at hlt
   have hbg:=HS.out b hSb
   have cc:∀q v,w0.cell? ⟨b,off+j * 6+q,none⟩=some v→wr.cell? ⟨b,off+j * 6+q,none⟩=some v:=fun q v hq=>(HKP.out.1.cell (p:=⟨b,off+j * 6+q,none⟩) hbg).trans ((HW.out.cell (p:=⟨b,off+j * 6+q,none⟩) (Nat.lt_trans hbg hgw)).trans hq)
   have q0:=cc 0 _ k0
   have q1:=cc 1 _ k1
   have q2:=cc 2 _ k2
   have q3:=cc 3 _ k3
   have q4:=cc 4 _ k4
   have q5:=cc 5 _ k5
   rw [Nat.add_zero] at q0
   have hyv:=HV.out y (List.mem_of_getElem? hx)
   have hgr:g≤wr.heap.size:=Nat.le_trans (Nat.le_of_lt hgW) hkp.1.size
   have hJA:J pre (wr.alloc (.cells #[.int .i64 y.kind,.bool y.bool,.int .i64 y.num,.string y.text,.slice a3 l3 c3,.slice a4 l4 c4] 28)):=HJ.out pre wr _ none hJp (World.grownBy_alloc wr _ none) (fun r e=>by cases e)
   have hKA:KpC g wr (wr.alloc (.cells #[.int .i64 y.kind,.bool y.bool,.int .i64 y.num,.string y.text,.slice a3 l3 c3,.slice a4 l4 c4] 28)):=KpW.below ((Br _ _).alloc (Lr _) _) hgr
   obtain ⟨px,hp1⟩:∃px:PartC D d S w0,px.1=([.int .i64 y.kind,.bool y.bool,.int .i64 y.num,.string y.text,.slice a3 l3 c3,.slice a4 l4 c4],y):=⟨⟨_,hnd,hyv⟩,rfl⟩
   obtain ⟨fn,tmps,assign,body,hy,hR⟩:=HY.out pre px _ hJA (by omega)
   have hNX:Hid (ndsOf (pre++[px])=its.take (j+1)):=Hh (by rw [ndsOf_snoc,hp1,hpre,List.take_add_one,hx];rfl)
   have hk5':(k == 5)=false:=by simpa using hk5
   rw [hp1] at hy
   simp only [List.toArray] at hy
   have ckA:=six_of (hKA.2 _ _ _ _ hgb tnu (hkp.2 _ _ _ _ hgb tnu HK.out))
   have HKA:=Hh hKA
   have HR':=Hh hR
   clear k0 k1 k2 k3 k4 k5 cc hpre hpl hJp hkp hJA hKA hR hx hyv hp1 hnd ck
   gi_wp2
   refine ⟨trivial,?_⟩
   gi_wp2
   refine ⟨fun _ h=>(by cases h),?_⟩
   gi_wp2
   refine HR'.out.mono ?_
   rintro e W3 (⟨rfl,hJ3,hk3⟩ | ⟨rfl,hJx3⟩)
   ·have HJ3:=Hh hJ3
    have HK3:=Hh hk3
    clear hJ3 hk3 HR'
    gi_wp2
    go_roundw
    case rel=>exact ⟨j+1,by omega,by go_num,⟨_,hNX.out,HJ3.out⟩,HKP.out.trans (HKA.out.trans HK3.out)⟩
    case measure=>simp [intOf];omega
   ·have HJ3:=Hh hJx3
    clear hJx3 HR'
    gi_wp2
    refine bodyPost_ret (results_none rfl _ _ _) rfl ?_
    exact ⟨⟨_,rfl⟩,.inr ⟨_,⟨_,by rw [hNX.out];exact List.take_append_drop _ _⟩,HJ3.out⟩⟩
  ·have hje:its.take j=its:=List.take_of_length_le (by omega)
   have hlt':¬ (j:Int)<(its.length:Int):=by omega
   clear hpre hpl hkp ck
   gi_wp2
   go_end0
   exact ⟨⟨_,rfl⟩,.inl ⟨pre,by rw [HPRE.out,hje],hJp⟩⟩
theorem valid_txC {d:Nat} {s:ByteArray} (h:textOk s=true):validN (d+1) (txC s)=true∧numsB (d+1) (txC s)=true:=by
 refine ⟨?_,by rw [numsB_succ];rfl⟩
 rw [validN_succ]
 unfold flatOk txC
 simp [h,ND.kind,ND.bool,ND.num,ND.text,ND.names,ND.items]
theorem parts1_map {D d:Nat} {S:Nat→Prop} {z:Int} {bb:Bool} {t:ByteArray} {a1 a2:Option Addr} {l1 c1 l2 c2:Nat} (ns:List ByteArray) (its:List ND) (w0:World) {g b1:Nat} (hS:∀b,S b→b<g) (hgb:b1 ≠ g)
 (hb1:w0.heap[b1]?=some (.cells #[.int .i64 5,.bool bb,.int .i64 z,.string t,.slice a1 l1 c1,.slice a2 l2 c2] 28 (0,0))) (hns:StrsIn S w0 (.slice a1 l1 c1) ns) (his:NodesIn (NodeIn D S w0) S w0 (.slice a2 l2 c2) its) (hnl:ns.length=its.length) (hok:∀s,s ∈ ns→textOk s=true) (hv:∀y,y ∈ its→validN d y=true∧numsB d y=true) (hlen:its.length≤256) (hgw:g<w0.heap.size) (n:Nat) (hn1:1≤n)
 (l:Nat) (J Jx:List (PartC D d S w0)→World→Prop) (W:World) (hW:Below w0.heap.size w0 W) (hJ:AbidesFrom W.heap.size J)
 (hY:∀pre x W1,J pre W1→pre.length<600→YieldAt Fence.wide (n - 1) Tryz.prog l #[.agg x.1.1.toArray] W1 fun e W'=>(e=.returned (.bool true)∧J (pre++[x]) W'∧KpC g W1 W')∨(e=.returned (.bool false)∧Jx (pre++[x]) W')) (h0:J [] W) :
 CallsIn Fence.wide n Tryz.prog 247 #[.func (.yield l) #[] #[],.pointer (some ⟨b1,0,none⟩)] W fun e W'=>(∃v,e=.returned v)∧((∃xs,ndsOf xs=(List.zipWith (fun s y=>[txC s,y]) ns its).flatten∧J xs W')∨(∃pre,ndsOf pre <+: (List.zipWith (fun s y=>[txC s,y]) ns its).flatten∧Jx pre W')):=by
 have hkW:=(hW.block b1 (lt_of_block hb1)).trans hb1
 have hgW:g<W.heap.size:=Ll hgw hW.size
 obtain ⟨ai,ci,ei,-,-,-⟩:=id his
 have hl2:l2=its.length:=by cases ei;rfl
 subst hl2
 clear ei
 obtain ⟨an,cn,en,hn2,hn3,hSn⟩:=hns
 have hl1:l1=ns.length∧a1=an:=by cases en;exact ⟨rfl,rfl⟩
 obtain ⟨rfl,rfl⟩:=hl1
 clear en
 obtain ⟨Q,hQ⟩:∃Q,Q=(List.zipWith (fun s y=>[txC s,y]) ns its).flatten:=⟨_,rfl⟩
 have HQ:=Hh hQ
 rw [←hQ]
 have hQl:Q.length≤512:=by
  have:=parts_len_le (.mk 5 false 0 ⟨#[]⟩ ns its) hlen
  rw [hQ];exact this
 have hQ2:∀j,(Q.take (2 * j)).length≤512:=fun j=>by rw [List.length_take];omega
 have hQe:Q.take (2 * its.length)=Q:=by
  refine List.take_of_length_le ?_
  rw [hQ]
  have:∀ (ns:List ByteArray) (its:List ND),((List.zipWith (fun s y=>[txC s,y]) ns its).flatten).length≤2 * its.length:=by
   intro ns
   induction ns with
   | nil=>intro its;simp
   | cons s t ih=>
    intro its
    cases its with
    | nil=>simp
    | cons y u=>
     rw [List.zipWith_cons_cons,List.flatten_cons,Lg,List.length_cons]
     have:=ih u
     simp at *
     omega
  exact this ns its
 have HQ2:=Hh (Ai hQ2 hQe)
 have HN:=Hh hSn
 have HOK:=Hh hok
 have HI:=Hh his
 have HV:=Hh hv
 have HW:=Hh hW
 have HJ:=Hh hJ
 have HY:=Hh hY
 have HS:=Hh hS
 have HK:=Hh hkW
 have ck:=six_of hkW
 clear his hv hb1 hW hJ hY hS hkW hSn hok hQ hQ2 hQe hQl
 refine callsIn_of_wp Tryz.func247 rfl trivial ?_ rfl
 simp only [Tryz.ntmps247,List.size_toArray,List.length_cons,List.length_nil,Nat.reduceAdd,Nat.reduceSub,Array.replicate_succ,Array.replicate_zero,List.push_toArray,List.append_toArray,List.nil_append,List.cons_append]
 gi_wp2
 gi_loopw [8] (fun i wr=>∃ (j:Nat),j≤its.length∧i=.int .i64 (j:Int)∧(∃pre:List (PartC D d S w0),ndsOf pre=Q.take (2 * j)∧J pre wr)∧KpC g W wr) (fun i _=>its.length - (intOf i).toNat)
 case atStart=>exact ⟨0,Nat.zero_le _,rfl,⟨[],rfl,h0⟩,KpW.refl _ _ _⟩
 case round=>
  obtain ⟨j,hj,rfl,⟨pre,hpre,hJp⟩,hkp⟩:=hrel
  have hpl:pre.length≤512:=by
   have:=congrArg List.length hpre
   have h2:=HQ2.out.1 j
   simp only [ndsOf,List.length_map] at this
   omega
  have HPRE:=Hh hpre
  have HPL:=Hh hpl
  have HKP:=Hh hkp
  have ckr:=six_of (hkp.2 _ _ _ _ hgb tnu HK.out)
  by_cases hlt:j<its.length
  ·have hlt':(j:Int)<(its.length:Int):=by omega
   have hltn:(j:Int)<(ns.length:Int):=by omega
   have hj0:(0:Int)≤(j:Int):=by omega
   obtain ⟨-,-,-,b,off,y,a3,l3,c3,a4,l4,c4,rfl,hSb,hx,hnd,k0,k1,k2,k3,k4,k5⟩:=HI.out.at hlt
   obtain ⟨sn,hsn⟩:∃s,ns[j]?=some s:=⟨_,List.getElem?_eq_getElem (by omega)⟩
   obtain ⟨bn,on,hab,hSbn,hcn,hsz⟩:=HN.out j sn hsn
   subst hab
   have hbg:=HS.out b hSb
   have hbgn:=HS.out bn hSbn
   have cc:∀q v,w0.cell? ⟨b,off+j * 6+q,none⟩=some v→wr.cell? ⟨b,off+j * 6+q,none⟩=some v:=fun q v hq=>(HKP.out.1.cell (p:=⟨b,off+j * 6+q,none⟩) hbg).trans ((HW.out.cell (p:=⟨b,off+j * 6+q,none⟩) (Nat.lt_trans hbg hgw)).trans hq)
   have q0:=cc 0 _ k0
   have q1:=cc 1 _ k1
   have q2:=cc 2 _ k2
   have q3:=cc 3 _ k3
   have q4:=cc 4 _ k4
   have q5:=cc 5 _ k5
   rw [Nat.add_zero] at q0
   have hcnr:wr.cell? ⟨bn,on+j,none⟩=some (.string sn):=(HKP.out.1.cell (p:=⟨bn,on+j,none⟩) hbgn).trans ((HW.out.cell (p:=⟨bn,on+j,none⟩) (Nat.lt_trans hbgn hgw)).trans hcn)
   have hyv:=HV.out y (List.mem_of_getElem? hx)
   have hgr:g≤wr.heap.size:=Nat.le_trans (Nat.le_of_lt hgW) hkp.1.size
   have hJA:J pre (wr.alloc (.cells #[.int .i64 y.kind,.bool y.bool,.int .i64 y.num,.string y.text,.slice a3 l3 c3,.slice a4 l4 c4] 28)):=HJ.out pre wr _ none hJp (World.grownBy_alloc wr _ none) (fun r e=>by cases e)
   have hKA:KpC g wr (wr.alloc (.cells #[.int .i64 y.kind,.bool y.bool,.int .i64 y.num,.string y.text,.slice a3 l3 c3,.slice a4 l4 c4] 28)):=KpW.below ((Br _ _).alloc (Lr _) _) hgr
   have hkA:=Hn wr (.cells #[.int .i64 y.kind,.bool y.bool,.int .i64 y.num,.string y.text,.slice a3 l3 c3,.slice a4 l4 c4] 28)
   have hcnA:(wr.alloc (.cells #[.int .i64 y.kind,.bool y.bool,.int .i64 y.num,.string y.text,.slice a3 l3 c3,.slice a4 l4 c4] 28)).cell? ⟨bn,on+j,none⟩=some (.string sn):=(hKA.1.cell (p:=⟨bn,on+j,none⟩) hbgn).trans hcnr
   obtain ⟨px,hp1⟩:∃px:PartC D d S w0,px.1=([.int .i64 y.kind,.bool y.bool,.int .i64 y.num,.string y.text,.slice a3 l3 c3,.slice a4 l4 c4],y):=⟨⟨_,hnd,hyv⟩,rfl⟩
   obtain ⟨pt,hpt⟩:∃pt:PartC D d S w0,pt.1=([.int .i64 3,.bool false,.int .i64 0,.string sn,.slice none 0 0,.slice none 0 0],txC sn):=by
    have hd1:∃d',d=d'+1:=by
     cases d with
     | zero=>cases hyv.1
     | succ d=>exact ⟨d,rfl⟩
    have hD1:1≤D:=by
     cases D with
     | zero=>exact hnd.elim
     | succ D=>omega
    obtain ⟨d',rfl⟩:=hd1
    exact ⟨⟨(_,txC sn),(node_leaf S w0 3 false 0 sn hsz).deeper hD1,valid_txC (HOK.out sn (List.mem_of_getElem? hsn))⟩,rfl⟩
   obtain ⟨hz1,hz2⟩:=zip_take ns its j sn y hsn hx
   rw [←HQ.out] at hz1 hz2
   have hNX1:Hid (ndsOf (pre++[pt]) <+: Q):=Hh (by rw [ndsOf_snoc,hpt,hpre,←hz1];exact List.take_prefix _ _)
   have hNX2:Hid (ndsOf (pre++[pt]++[px])=Q.take (2 * (j+1))):=Hh (by rw [ndsOf_snoc,ndsOf_snoc,hpt,hp1,hpre,←hz2])
   have ckA:=six_of (hKA.2 _ _ _ _ hgb tnu (hkp.2 _ _ _ _ hgb tnu HK.out))
   have HKA:=Hh hKA
   have HkA:=Hh hkA
   have HJA:=Hh hJA
   have HPT:=Hh hpt
   have HPX:=Hh hp1
   have HBX:Hid (wr.heap.size ≠ g):=Hh (by have:=hkp.1.size;omega)
   clear k0 k1 k2 k3 k4 k5 cc hpre hpl hJp hkp hJA hKA hx hyv hp1 hnd ck hpt hz1 hz2 hsn hcn hsz hcnr hkA
   gi_wp2
   refine ⟨trivial,(callsIn_wide.2 (ntext_any sn _)).mono ?_⟩
   rintro e w4 ⟨rfl,hb4⟩
   have hJ4:J pre w4:=HJ.out pre _ _ none HJA.out (grown_of_below hb4 (Lr _) none) (fun r e=>by cases e)
   have hK4:=KpW.below (TB:=5) hb4 (Nat.le_trans hgr HKA.out.1.size)
   obtain ⟨fn,tmps,assign,body,hy,hR⟩:=HY.out pre pt w4 hJ4 (by have:=HPL.out;omega)
   rw [HPT.out] at hy
   simp only [List.toArray] at hy
   have HR':=Hh hR
   have HK4:=Hh hK4
   clear hJ4 hK4 hR hb4 ckA hcnA ckr q0 q1 q2 q3 q4 q5
   gi_wp2
   refine HR'.out.mono ?_
   rintro e W5 (⟨rfl,hJ5,hk5⟩ | ⟨rfl,hJx5⟩)
   ·have c5:=six_of (hk5.2 _ _ _ _ HBX.out tnu (HK4.out.2 _ _ _ _ HBX.out tnu HkA.out))
    obtain ⟨fn2,tmps2,assign2,body2,hy2,hR2⟩:=HY.out (pre++[pt]) px W5 hJ5 (by have:=HPL.out;simp;omega)
    rw [HPX.out] at hy2
    simp only [List.toArray] at hy2
    have HR2:=Hh hR2
    have HK5:=Hh hk5
    clear hJ5 hk5 hR2 hy HR'
    gi_wp2
    refine HR2.out.mono ?_
    rintro e W6 (⟨rfl,hJ6,hk6⟩ | ⟨rfl,hJx6⟩)
    ·have HJ6:=Hh hJ6
     have HK6:=Hh hk6
     clear hJ6 hk6 HR2 hy2 c5
     gi_wp2
     go_roundw
     case rel=>exact ⟨j+1,by omega,by go_num,⟨_,hNX2.out,HJ6.out⟩,HKP.out.trans (HKA.out.trans (HK4.out.trans (HK5.out.trans HK6.out)))⟩
     case measure=>simp [intOf];omega
    ·have HJ6:=Hh hJx6
     clear hJx6 HR2 hy2 c5
     gi_wp2
     refine bodyPost_ret (results_none rfl _ _ _) rfl ?_
     exact ⟨⟨_,rfl⟩,.inr ⟨_,by rw [hNX2.out];exact List.take_prefix _ _,HJ6.out⟩⟩
   ·have HJ5:=Hh hJx5
    clear hJx5 HR' hy
    gi_wp2
    refine bodyPost_ret (results_none rfl _ _ _) rfl ?_
    exact ⟨⟨_,rfl⟩,.inr ⟨_,hNX1.out,HJ5.out⟩⟩
  ·have hje:j=its.length:=by omega
   have hlt':¬ (j:Int)<(its.length:Int):=by omega
   have hQe:=HQ2.out.2
   rw [←hje] at hQe
   have HQE:=Hh hQe
   clear hpre hpl hkp ck hQe hje
   gi_wp2
   go_end0
   exact ⟨⟨_,rfl⟩,.inl ⟨pre,by rw [HPRE.out,HQE.out],hJp⟩⟩
theorem parts1_stops {D d:Nat} {S:Nat→Prop} {x:ND} {a1 a2:Option Addr} {l1 c1 l2 c2:Nat} (w0:World) {g b1:Nat} (hS:∀b,S b→b<g) (hgb:b1 ≠ g)
 (hb1:w0.heap[b1]?=some (.cells #[.int .i64 x.kind,.bool x.bool,.int .i64 x.num,.string x.text,.slice a1 l1 c1,.slice a2 l2 c2] 28 (0,0))) (h:NodeIn (D+1) S w0 [.int .i64 x.kind,.bool x.bool,.int .i64 x.num,.string x.text,.slice a1 l1 c1,.slice a2 l2 c2] x) (hv:validN (d+1) x=true) (hn:numsB (d+1) x=true) (hgw:g<w0.heap.size) (n:Nat) (hn1:1≤n) :
 SeqStopsK Fence.wide n Tryz.prog 247 #[.pointer (some ⟨b1,0,none⟩)] (fun p:PartC D d S w0=>#[.agg p.1.1.toArray]) (KpC g) (fun xs=>ndsOf xs=partsN x) (fun pre=>ndsOf pre <+: partsN x) 600 w0:=fun l J Jx W hW hJ _ hY h0=>by
 obtain ⟨vn,vi,e,-,hns,his⟩:=h
 simp only [List.cons.injEq,and_true,true_and] at e
 obtain ⟨rfl,rfl⟩:=e
 obtain ⟨hi,hl,-,hnm⟩:=validN_parts hv
 obtain ⟨-,hni⟩:=numsB_parts hn
 by_cases hk5:x.kind=5
 ·have hp:partsN x=(List.zipWith (fun s y=>[txC s,y]) x.names x.items).flatten:=by unfold partsN;rw [if_pos hk5]
  have hnl:x.names.length=x.items.length:=by
   rcases kinds hv with e | e | e | e | e | ⟨-,e⟩
   ·rw [e] at hk5;cases hk5
   ·rw [e] at hk5;cases hk5
   ·rw [e] at hk5;cases hk5
   ·rw [e] at hk5;cases hk5
   ·rw [e] at hk5;cases hk5
   ·exact e
  rw [hp]
  rw [hk5] at hb1
  exact parts1_map x.names x.items w0 hS hgb hb1 hns his hnl hnm (fun y hy=>⟨hi y hy,hni y hy⟩) hl hgw n hn1 l J Jx W hW hJ hY h0
 ·have hp:partsN x=x.items:=by unfold partsN;rw [if_neg hk5]
  rw [hp]
  exact parts1_list x.items w0 hS hgb hb1 hk5 his (fun y hy=>⟨hi y hy,hni y hy⟩) hl hgw n hn1 l J Jx W hW hJ hY h0
end Go.Proofs.YtcklddldejejcaaGreatDoor