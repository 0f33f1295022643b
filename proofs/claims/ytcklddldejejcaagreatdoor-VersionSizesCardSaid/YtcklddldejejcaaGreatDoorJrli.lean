/- The document's reader: lists and maps. -/
import Derived.Test.YtcklddldejejcaaGreatDoorJrnu
import Derived.Deep.CutRange
set_option linter.unusedVariables false
set_option linter.unusedSimpArgs false
set_option maxHeartbeats 6400000
set_option maxRecDepth 100000
namespace Go.Proofs.YtcklddldejejcaaGreatDoor
open Go Go.ChangeShapes Go.WideShapes Go.ChangeAt Go.RowKit
def RvAt (d:Nat):Prop:=∀ (s:ByteArray) (p:Nat) (w:World),0<w.heap.size→p≤s.size→s.size≤1000000→Calls Tryz.prog 81 #[.string s,.int .i64 (p:Int),.int .i64 (d:Int)] w (RvPost (fun y t=>valueP d (s.data.toList.drop p)=some (y,t)) d s p w)
def nmSum (ns:List ByteArray):Nat:=(ns.map fun s=>6 * s.size+8).sum
theorem nmSum_push (ns:List ByteArray) (s:ByteArray):nmSum (ns++[s])=nmSum ns+(6 * s.size+8):=by unfold nmSum;rw [List.map_append,List.sum_append];rfl
def LSt (d:Nat) (k:Int) (s:ByteArray) (p0 nb C:Nat) (w wx:World) (vn vi:Value) (ns:List ByteArray) (A:List NC) (p:Nat):Prop:=
 NSt 28 9 (d+1) w wx 0 nb C k vn vi ns A∧Below w.heap.size w wx∧(∀y,y ∈ A→lowV (d+1) y.2∧numsB (d+1) y.2=true)∧A.length≤256∧ns.length≤A.length∧p0<p∧p≤s.size∧nmSum ns+costs (d+1) (nodesOf A)+40 * (p0+1)≤40 * p
theorem rlist_done {V:ND→List UInt8→Prop} {d:Nat} {k:Int} {s:ByteArray} {p0 nb C:Nat} {w wx:World} {vn vi:Value} {ns:List ByteArray} {A:List NC} {q:Int} (hst:NSt 28 9 (d+1) w wx 0 nb C k vn vi ns A) (hb:Below w.heap.size w wx) (hq:q=-1∨((p0:Int)≤q∧q≤(s.size:Int)∧((24+nmSum ns+costs (d+1) (nodesOf A):Nat):Int)≤40 * (q - (p0:Int)))) (hf:∀y,y ∈ A→lowV (d+1) y.2∧numsB (d+1) y.2=true) (hm:(nodesOf A).length≤1000000)
 (hV:∀y t,V y t→(.mk k false 0 ⟨#[]⟩ ns (nodesOf A))=y∧0≤q∧t=s.data.toList.drop q.toNat) :
 RvPost V (d+1) s p0 w (.returned (.tuple #[.agg #[.int .i64 k,.bool false,.int .i64 0,.string ⟨#[]⟩,vn,vi],.int .i64 q])) (set6 wx w.heap.size (.int .i64 k) (.bool false) (.int .i64 0) (.string ⟨#[]⟩) vn vi):=by
 have hgs:=grown_set6 wx w.heap.size (.int .i64 k) (.bool false) (.int .i64 0) (.string ⟨#[]⟩) vn vi
 refine ⟨[.int .i64 k,.bool false,.int .i64 0,.string ⟨#[]⟩,vn,vi],.mk k false 0 ⟨#[]⟩ ns (nodesOf A),q,rfl,hst.done.1,hb.grown hgs hb.size (fun k hk=>by cases hk;exact Lr _),hq.imp_right (fun h=>⟨h.1,h.2.1,Int.le_trans (Int.le_of_eq (by rw [costN_succ];rfl)) h.2.2⟩),⟨⟨hm,?_⟩,?_⟩,hV⟩
 ·intro y hy
  obtain ⟨z,hz,rfl⟩:=List.mem_map.1 (show y ∈ nodesOf A from hy)
  exact (hf z hz).1
 ·rw [numsB_succ,Bool.and_eq_true,List.all_eq_true]
  refine ⟨show wideI 0=true by decide,fun y hy=>?_⟩
  obtain ⟨z,hz,rfl⟩:=List.mem_map.1 (show y ∈ nodesOf A from hy)
  exact (hf z hz).2
theorem rlist_any (d:Nat) (hd:d≤20) (RV:RvAt d) (k:Int) (e:UInt8) (hk:(k=4∧e=93)∨(k=5∧e=125)) (s:ByteArray) (p0:Nat) (w:World) (hw0:0<w.heap.size) (hp0:p0<s.size) (hs:s.size≤1000000):Calls Tryz.prog 127 #[.string s,.int .i64 (p0:Int),.int .i64 ((d:Int)+1),.int .i64 k,.int .u8 (e.toNat:Int)] w (RvPost (PItemsIs d k e (s.data.toList.drop (p0+1))) (d+1) s p0 w):=by
 obtain ⟨l,hl⟩:∃l,l=s.data.toList:=⟨_,rfl⟩
 have hsz:l.length=s.size:=by rw [hl,Array.length_toList];rfl
 have HSZ:=Hh hsz
 have HL:=Hh hl
 have HGET:Hid (∀ (p:Nat) (h:p<s.size),l[p]?=some (s[p]'h)):=Hh fun p h=>by rw [hl,List.getElem?_eq_getElem (by rw [Array.length_toList];exact h)];rfl
 have hsi:(s.size:Int)≤1000000:=by omega
 obtain ⟨z1,hz1⟩:∃o,o=Obj.cells #[.int .i64 0,.bool false,.int .i64 0,.string ⟨#[]⟩,.slice none 0 0,.slice none 0 0] 28 (0,0):=⟨_,rfl⟩
 obtain ⟨z2,hz2⟩:∃o,o=Obj.cells #[.int .i64 k,.bool false,.int .i64 0,.string ⟨#[]⟩,.slice none 0 0,.slice none 0 0] 28 (0,0):=⟨_,rfl⟩
 have hr0:=Hn w z1
 have hz:(w.alloc z1).heap.size=w.heap.size+1:=by simp
 have hr1:=(Below.heap_alloc (w.alloc z1) z2 _ (lt_of_block hr0)).trans hr0
 have hn1:=Hn (w.alloc z1) z2
 have bb:=((Br w.heap.size w).alloc (o:=z1) (Lr _)).alloc (o:=z2) (by rw [hz];omega)
 obtain ⟨nb,hnb⟩:∃nb,nb=(w.alloc z1).heap.size:=⟨_,rfl⟩
 rw [←hnb] at hn1
 obtain ⟨W2,hW2⟩:∃W,W=(w.alloc z1).alloc z2:=⟨_,rfl⟩
 have hst0:NSt 28 9 (d+1) w W2 0 nb W2.heap.size k (.slice none 0 0) (.slice none 0 0) [] []:=by
  rw [hW2]
  exact NSt.begin (by rw [hr1,hz1]) (by rw [hn1,hz2]) hw0 (by omega) (grown_of_below bb (Lr _) _)
 rw [←hW2] at bb
 obtain ⟨C,hC⟩:∃C,C=W2.heap.size:=⟨_,rfl⟩
 rw [←hC] at hst0
 have HST:=Hh hst0
 have HBB:=Hh bb
 have RVH:=Hh RV
 rw [hz1,hz2] at hW2
 rw [hz1] at hnb
 have hzz:(w.alloc (.cells #[.int .i64 0,.bool false,.int .i64 0,.string ⟨#[]⟩,.slice none 0 0,.slice none 0 0] 28)).heap.size=w.heap.size+1:=by simp
 rw [hzz] at hnb
 clear hst0 bb hr0 hr1 hn1 hC RV hz hz1 hz2 hzz hsz
 have ep0:IntKind.i64.wrap ((p0:Int)+1)=(p0:Int)+1:=IntWalk.i64_in _ (by omega)
 have hdz:(d:Int)≤20:=by omega
 have hd0:(0:Int)≤(d:Int):=by omega
 go_enter Tryz.func127,Tryz.ntmps127
 go_upto_region 2 with fail
 rw [←hW2]
 rw [←hnb]
 have HNB:=Hh hnb
 clear hW2 hnb z1 z2
 obtain ⟨ip,hip,hz0,hz1,hz2⟩:=infon
 obtain ⟨iq,hiq,hy0,hy1,hy2⟩:=infos
 have HI2:=Hh hip
 have HIQ:=Hh hiq
 clear hip hiq
 have hug:=Tryz.underlying26
 have hus:=Tryz.underlying25
 go_upto_region 4 with fail
 go_loopw [1] (fun vp wr=>∃ (p:Nat) (vn vi:Value) (ns:List ByteArray) (A:List NC),vp=.int .i64 p∧LSt d k s p0 nb C w wr vn vi ns A p∧(∀n0 R,itemsP (valueP d) (decide (k=5)) e n0 [] [] (l.drop (p0+1))=some R→∃n,itemsP (valueP d) (decide (k=5)) e n ns (nodesOf A) (l.drop p)=some R)) (fun vp _=>s.size - (intOf vp).toNat)
 case atStart=>exact ⟨p0+1,_,_,[],[],by go_num,⟨HST.out,HBB.out,(fun y hy=>by simp at hy),by simp,by simp,by omega,by omega,by simp [nmSum,costs,nodesOf]⟩,fun n0 R h=>⟨n0,h⟩⟩
 case round=>
  clear HST HBB
  obtain ⟨p,vn,vi,ns,A,rfl,⟨hst,hbel,hfi,hA256,hnl,hpp,hps,hco⟩,hsem⟩:=hrel
  have HCO:=Hh hco
  clear hco
  obtain ⟨ai,ci,hvi⟩:=hst.viForm
  subst hvi
  have HS:=Hh hst
  have HB:=Hh hbel
  have HFI:=Hh hfi
  have HSEM:=Hh hsem
  have hpi:(p:Int)≤(s.size:Int):=by omega
  have hpz:(0:Int)≤(p:Int):=by omega
  have c5:=(six_of hst.nod).2.2.2.2.2
  clear hst hbel hfi hsem
  go_upto_region 4 with fail
  go_cut [39] from 21 to 129 (fun v wx=>∃bb:Bool,v=.bool bb∧(bb=true↔l[p]?=some e∧A.length=0)∧wx=wr)
  case first=>
   by_cases hpn:p<s.size
   ·have hpj:(p:Int)<(s.size:Int):=by omega
    have gc:=HGET.out p hpn
    obtain ⟨c,hc⟩:∃c,c=s[p]'hpn:=⟨_,rfl⟩
    rw [←hc] at gc
    have hc':=hc.symm
    have HG:=Hh gc
    clear hc gc
    by_cases hce:c=e
    ·have tce:((c.toNat:Int) == (e.toNat:Int))=true:=by rw [hce];simp
     have HCE:=Hh hce
     clear hce
     by_cases hA:A.length=0
     ·have tA:((A.length:Int) == 0)=true:=by rw [hA];rfl
      have HA:=Hh hA
      clear hA
      go_wp2
      go_meet
      case rel=>exact ⟨true,by first | rfl | simp,⟨fun _=>⟨by rw [HG.out,HCE.out],HA.out⟩,fun _=>rfl⟩,rfl⟩
     ·have tA:((A.length:Int) == 0)=false:=by rw [beq_eq_false_iff_ne];omega
      have HA:=Hh hA
      clear hA
      go_wp2
      go_meet
      case rel=>exact ⟨false,by first | rfl | simp,⟨fun h=>(by cases h),fun h=>absurd h.2 HA.out⟩,rfl⟩
    ·have tce:((c.toNat:Int) == (e.toNat:Int))=false:=by
      rw [beq_eq_false_iff_ne];intro h;exact hce (UInt8.toNat_inj.1 (by omega))
     have HCE:=Hh hce
     clear hce
     go_wp2
     go_meet
     case rel=>exact ⟨false,by first | rfl | simp,⟨fun h=>(by cases h),fun h=>absurd (Option.some.inj (HG.out.symm.trans h.1)) HCE.out⟩,rfl⟩
   ·have hpj:¬ (p:Int)<(s.size:Int):=by omega
    go_wp2
    go_meet
    case rel=>exact ⟨false,by first | rfl | simp,⟨fun h=>(by cases h),fun h=>absurd (lt_of_some h.1) (by have:=HSZ.out;omega)⟩,rfl⟩
  case rest=>
   obtain ⟨bb,rfl,hbb,hwc⟩:=hcut
   replace hwc:=hwc.symm
   subst hwc
   cases bb with
   | true=>
    obtain ⟨he1,he2⟩:=hbb.1 rfl
    have HE:=Hh he1
    have hAe:A=[]:=List.length_eq_zero_iff.1 he2
    have hne:ns=[]:=List.length_eq_zero_iff.1 (by omega)
    have HAE:=Hh (Ai hAe hne)
    clear hbb he1 he2 hAe hne
    have hp1i:(p:Int)<(s.size:Int):=by have:=lt_of_some HE.out;have:=HSZ.out;omega
    have HPW:IntKind.i64.wrap ((p:Int)+1)=(p:Int)+1:=IntWalk.i64_in _ (by omega)
    obtain ⟨an,cn,hvn⟩:=HS.out.vnForm
    subst hvn
    have f0:=free_six HS.out.nod
    have c0:=six_of HS.out.nod
    have f1:=free_six HS.out.res
    have c1:=six_of HS.out.res
    have hne:¬w.heap.size=nb:=by have:=HS.out.lo;omega
    have hne2:¬nb=w.heap.size:=fun e=>hne e.symm
    go_wp2
    have hput:=six_put HS.out.res (.int .i64 k) (.bool false) (.int .i64 0) (.string ⟨#[]⟩) (.slice an ns.length cn) (.slice ai A.length ci)
    refine bodyPost_ret (v:=.tuple #[.agg #[.int .i64 k,.bool false,.int .i64 0,.string ⟨#[]⟩,.slice an ns.length cn,.slice ai A.length ci],.int .i64 ((p:Int)+1)]) ?_ ?_ ?_
    rotate_left
    ·rfl
    ·exact rlist_done HS.out HB.out (.inr (by have:=HCO.out;omega)) HFI.out (by rw [nodesOf,List.length_map];omega) (fun y t hV=>by
     obtain ⟨n0,ns',its',hi,rfl⟩:=hV
     rw [←HL.out] at hi
     obtain ⟨n,hb⟩:=HSEM.out n0 _ hi
     have e1:nodesOf A=[]:=by rw [HAE.out.1];rfl
     rw [e1,HAE.out.2,drop_at HE.out] at hb
     have:=itemsP_done hb
     cases this
     rw [e1,HAE.out.2]
     exact ⟨rfl,by omega,by rw [HL.out,show ((p:Int)+1).toNat=p+1 by omega]⟩)
    ·obtain ⟨q0,q1,q2,q3,q4,q5⟩:=six_of hput
     simp only [set6] at q0 q1 q2 q3 q4 q5
     simp [results,Tryz.results127,go_sem,q0,q1,q2,q3,q4,q5]
   | false=>
    have hne:¬ (l[p]?=some e∧A.length=0):=fun h=>by have:=hbb.2 h;cases this
    have HSI:Hid (∀n0 R,itemsP (valueP d) (decide (k=5)) e n0 [] [] (l.drop (p0+1))=some R→∃n,itmP (valueP d) (decide (k=5)) e n ns (nodesOf A) (l.drop p)=some R):=Hh fun n0 R hi=>by
     obtain ⟨n,hb⟩:=HSEM.out n0 R hi
     refine itemsP_body hb ?_
     rintro ⟨h1,h2⟩
     rw [List.head?_drop] at h2
     exact hne ⟨h2,by rw [List.map_eq_nil_iff.1 h1];rfl⟩
    clear hbb hne HSEM
    by_cases hk5:k=5
    ·have hk5b:(k == 5)=true:=by simpa using hk5
     have HK5:=Hh hk5
     clear hk5
     have VACN:Hid ((∀s t1,¬NameIs (l.drop p) s t1)→∀y t,¬PItemsIs d k e (s.data.toList.drop (p0+1)) y t):=Hh fun hbad y t ⟨n0,ns',its',hi,_⟩=>by
      rw [←HL.out] at hi
      obtain ⟨n,hb⟩:=HSI.out n0 _ hi
      rw [decide_eq_true HK5.out] at hb
      obtain ⟨s',t1,h1,-⟩:=name_body hb
      exact hbad s' t1 h1
     by_cases hpn:p<s.size
     ·have hpj:(p:Int)<(s.size:Int):=by omega
      have gc:=HGET.out p hpn
      obtain ⟨c,hc⟩:∃c,c=s[p]'hpn:=⟨_,rfl⟩
      rw [←hc] at gc
      have hc':=hc.symm
      have HG:=Hh gc
      clear hc gc
      by_cases hc34:c=34
      ·have t34:((c.toNat:Int) == 34)=true:=by rw [hc34];rfl
       have t34b:((c.toNat:Int) != 34)=false:=by rw [bne,t34];rfl
       have HC34:=Hh hc34
       clear hc34
       have QT:=Hh (rquoted_any s p wr hpn hs)
       go_upto_region 10 with ((with_reducible refine (QT.out).mono ?_);rintro e2 w3 ⟨sl,q,rfl,hb3,hsl,hq3,hqs3⟩)
       have VACQ:Hid ((q<0∨(s.size:Int)≤q∨l[q.toNat]? ≠ some 58)→∀y t,¬PItemsIs d k e (s.data.toList.drop (p0+1)) y t):=Hh fun hbad=>VACN.out fun s' t1 ⟨r,h1,h2⟩=>by
        rw [drop_at HG.out,HC34.out] at h1
        cases h1
        rw [HL.out] at h2
        obtain ⟨-,h3,h4⟩:=hqs3 s' _ h2
        rw [←HL.out] at h4
        have h58:l[q.toNat]?=some 58:=by rw [←List.head?_drop,←h4];rfl
        rcases hbad with h | h | h
        ·omega
        ·have:=lt_of_some h58;have:=HSZ.out;omega
        ·exact h h58
       have HS3:=Hh (HS.out.below hb3)
       have HB3:=Hh (HB.out.trans (hb3.mono HB.out.size))
       have HQ3:=Hh hqs3
       clear hb3 hqs3 QT
       by_cases hq0:q<0
       ·have VAC:=Hh (VACQ.out (.inl hq0))
        have f1:=free_six HS3.out.res
        have c1:=six_of HS3.out.res
        go_wp2
        refine ret_node (v:=.int .i64 (-1)) HS3.out.res Tryz.results127 rfl rfl rfl ?_
        exact rleaf_res 0 false 0 ⟨#[]⟩ (-1) HB3.out (.inl rfl) (by decide) (by decide) (fun y t hV=>absurd hV (VAC.out y t))
       ·by_cases hqz:(s.size:Int)≤q
        ·have VAC:=Hh (VACQ.out (.inr (.inl hqz)))
         have f1:=free_six HS3.out.res
         have c1:=six_of HS3.out.res
         go_wp2
         refine ret_node (v:=.int .i64 (-1)) HS3.out.res Tryz.results127 rfl rfl rfl ?_
         exact rleaf_res 0 false 0 ⟨#[]⟩ (-1) HB3.out (.inl rfl) (by decide) (by decide) (fun y t hV=>absurd hV (VAC.out y t))
        ·obtain ⟨q1,hq1⟩:∃q1:Nat,(q1:Int)=q:=⟨q.toNat,by omega⟩
         subst hq1
         have hq1n:q1<s.size:=by omega
         have hq1i:(q1:Int)<(s.size:Int):=by omega
         have hq1z:(0:Int)≤(q1:Int):=by omega
         have hpq1:p<q1:=by omega
         have gq:=HGET.out q1 hq1n
         obtain ⟨cq,hcq⟩:∃cq,cq=s[q1]'hq1n:=⟨_,rfl⟩
         rw [←hcq] at gq
         have hcq':=hcq.symm
         have HGQ:=Hh gq
         clear hcq gq
         by_cases h58:cq=58
         ·have t58:((cq.toNat:Int) == 58)=true:=by rw [h58];rfl
          have t58b:((cq.toNat:Int) != 58)=false:=by rw [bne,t58];rfl
          have HSEM2:Hid (∀n0 R,itemsP (valueP d) (decide (k=5)) e n0 [] [] (l.drop (p0+1))=some R→∃n,valP (valueP d) (decide (k=5)) e n (ns++[sl]) (nodesOf A) (l.drop (q1+1))=some R):=Hh fun n0 R hi=>by
           obtain ⟨n,hb⟩:=HSI.out n0 R hi
           rw [decide_eq_true HK5.out] at hb ⊢
           obtain ⟨s',t1,⟨r,h1,h2⟩,h3⟩:=name_body hb
           rw [drop_at HG.out,HC34.out] at h1
           cases h1
           rw [HL.out] at h2
           obtain ⟨h4,-,h5⟩:=HQ3.out s' _ h2
           rw [←HL.out,Int.toNat_natCast,drop_at HGQ.out] at h5
           cases h5
           rw [h4]
           exact ⟨n,h3⟩
          have HC2:Hid (nmSum (ns++[sl])+costs (d+1) (nodesOf A)+40 * (p0+1)≤40 * (q1+1)):=Hh (by rw [nmSum_push];have:=HCO.out;omega)
          clear h58 VACQ VACN HSI hq3
          have c4:=(six_of HS3.out.nod).2.2.2.2.1
          have b4:=(Br w3.heap.size w3).alloc (o:=.cells #[.string sl] 9) (Lr _)
          have hst4:=HS3.out.below b4
          have hB4:=HB3.out.trans (b4.mono HB3.out.size)
          have hn4:=Hn w3 (.cells #[.string sl] 9)
          have HN4:Hid (∀q u,([.string sl]:List Value)[q]?=some u→(w3.alloc (.cells #[.string sl] 9)).cell? ((⟨w3.heap.size,0,none⟩:Addr).add q)=some u):=Hh fun q u hq=>by
           have:=cells_lit _ hn4 rfl q u hq
           rw [Addr.add_lit,Nat.zero_add];exact this
          have hO4:=Hh hst4.names.1
          have hbs4:=hst4.lo.2.2.2
          have HST4:=Hh hst4
          have HB4:=Hh hB4
          have hsz4:sl.size≤maxLen - 2:=by unfold maxLen;omega
          clear hst4 hn4 b4 hB4
          go_upto_region 13 with ((refine wpList_append_lies _ rfl (.tmp 78) (.tmp 80) 25 rfl C 9 iq (.string ⟨#[]⟩) 1 16 hus HIQ.out hy0 hy1 hy2 rfl (by decide) vn ns.length _ rfl hO4.out ⟨w3.heap.size,0,none⟩ 1 1 [.string sl] rfl rfl HN4.out (by intro u hu;simp at hu;subst hu;rfl) (by decide) (by unfold maxLen;omega) (by omega) hbs4 _ rfl ?_);intro gn cn Wn hown hgrow hat hlt;(have hk8:=(HST4.out.apart (.inl rfl) hgrow nb HST4.out.lo.2.2.1).trans HST4.out.nod);(have hf8:=free_six hk8);(have hd8:=six_of hk8);(have HOW:=Hh (Ai hown (Ai hgrow hat)));clear hown hgrow hat hk8)
          have hsty:=HST4.out.name HOW.out.1 HOW.out.2.1 (own_at HOW.out.2.2) hsz4
          have hBy:Below w.heap.size w (Wn.setCell ⟨nb,4,none⟩ (.slice (some ⟨gn,0,none⟩) (ns.length+1) cn)):=by
           have h1:=HB4.out.grown HOW.out.2.1 HB4.out.size (fun b hb=>by have:=(HST4.out.names.1.lt b hb).1;have:=HST4.out.lo;omega)
           exact h1.grown (grown_set Wn nb 4 _) (by have:=h1.size;omega) (fun b hb=>by cases hb;have:=HST4.out.lo;omega)
          generalize Wn.setCell ⟨nb,4,none⟩ (.slice (some ⟨gn,0,none⟩) (ns.length+1) cn)=wz at hsty hBy ⊢
          have HS2:=Hh hsty
          have HB2:=Hh hBy
          have HNL:Hid ((ns++[sl]).length≤A.length+1):=Hh (by rw [Lg];show ns.length+1≤_;omega)
          obtain ⟨p2,hp2⟩:∃p2,p2=q1+1:=⟨_,rfl⟩
          have HP2:Hid (p≤p2∧p2≤s.size∧p0<p2):=Hh ⟨by omega,by omega,by omega⟩
          have SEM:=HSEM2
          rw [←hp2] at SEM HC2
          have ep2:(q1:Int)+1=(p2:Int):=by omega
          rw [ep2]
          clear hsty hBy HSEM2 HST4 HB4 HOW hO4 HN4 HS3 HB3 HS HB c4 hf8 hd8 hp2 hsl c5
          generalize ns++[sl]=ns2 at HS2 SEM HNL HC2
          generalize Value.slice (some ⟨gn,0,none⟩) (ns.length+1) cn=vn2 at HS2 ⊢
          have hp2i:(p2:Int)≤(s.size:Int):=by have:=HP2.out;omega
          have hp2z:(0:Int)≤(p2:Int):=by omega
          have hds:(d:Int)+1 - 1=(d:Int):=by omega
          have hdw:IntKind.i64.wrap (d:Int)=(d:Int):=IntWalk.i64_in _ (by omega)
          have NC:=Hh (RVH.out s p2 wz (by have:=HS2.out.lo;omega) (by have:=HP2.out;omega) hs)
          rw [←HL.out] at NC
          go_upto_region 14 with ((with_reducible refine (NC.out).mono ?_);rintro e3 w5 ⟨cs,x,q,rfl,hnode,hb5,hq5,hf5,hv5⟩;go_loud ((obtain ⟨a1,l1,c1',a2,l2,c2',hcs⟩:=hnode.slices);subst hcs))
          have bS:=(Br w5.heap.size w5).alloc (o:=.cells #[.int .i64 x.kind,.bool x.bool,.int .i64 x.num,.string x.text,.slice a1 l1 c1',.slice a2 l2 c2'] 28) (Lr _)
          have hst5:=(HS2.out.below hb5).below bS
          have hnx:=Hn w5 (.cells #[.int .i64 x.kind,.bool x.bool,.int .i64 x.num,.string x.text,.slice a1 l1 c1',.slice a2 l2 c2'] 28)
          have hfr:=fun (w7:World) (hb:Below w5.heap.size w5 w7)=>HS2.out.fresh hnode hb
          have hone:=hnode.one
          have hB6:=(HB2.out.trans (hb5.mono HB2.out.size)).trans (bS.mono (by have:=HB2.out.size;have:=hb5.size;omega))
          obtain ⟨W6,hW6⟩:∃W,W=w5.alloc (.cells #[.int .i64 x.kind,.bool x.bool,.int .i64 x.num,.string x.text,.slice a1 l1 c1',.slice a2 l2 c2'] 28):=⟨_,rfl⟩
          obtain ⟨g6,hg6⟩:∃g,g=w5.heap.size:=⟨_,rfl⟩
          rw [←hW6] at bS hst5 hnx hB6
          rw [←hg6] at hnx
          try rw [←hW6]
          try rw [←hg6]
          have HST6:=Hh hst5
          have HB6:=Hh hB6
          have HFR:=Hh hfr
          have HBS:=Hh bS
          have HONE:=Hh hone
          have HF5:=Hh hf5
          have HV5:=Hh hv5
          clear hW6 hg6 hst5 hB6 hfr bS hone hf5 hv5 hnode hb5 NC
          have VACV:Hid ((q<0∨(s.size:Int)≤q)→∀y t,¬PItemsIs d k e (s.data.toList.drop (p0+1)) y t):=Hh fun hbad y t ⟨n0,ns',its',hi,_⟩=>by
           rw [←HL.out] at hi
           obtain ⟨n,hb⟩:=SEM.out n0 _ hi
           unfold valP at hb
           cases hV:valueP d (l.drop p2) with
           | none=>rw [hV] at hb;cases hb
           | some z=>
            obtain ⟨z1,z2⟩:=z
            rw [hV] at hb
            obtain ⟨-,h2,h3⟩:=HV5.out z1 z2 hV
            rw [←HL.out] at h3
            rcases hbad with hbad | hbad
            ·omega
            ·rw [h3,List.drop_eq_nil_of_le (by have:=HSZ.out;omega)] at hb
             cases hb
          by_cases hq0:q<0
          ·have VAC:=Hh (VACV.out (.inl hq0))
           have f1:=free_six HST6.out.res
           have c1:=six_of HST6.out.res
           go_wp2
           refine ret_node (v:=.int .i64 (-1)) HST6.out.res Tryz.results127 rfl rfl rfl ?_
           exact rleaf_res 0 false 0 ⟨#[]⟩ (-1) HB6.out (.inl rfl) (by decide) (by decide) (fun y t hV=>absurd hV (VAC.out y t))
          ·by_cases hqs:(s.size:Int)≤q
           ·have VAC:=Hh (VACV.out (.inr hqs))
            have f1:=free_six HST6.out.res
            have c1:=six_of HST6.out.res
            go_wp2
            refine ret_node (v:=.int .i64 (-1)) HST6.out.res Tryz.results127 rfl rfl rfl ?_
            exact rleaf_res 0 false 0 ⟨#[]⟩ (-1) HB6.out (.inl rfl) (by decide) (by decide) (fun y t hV=>absurd hV (VAC.out y t))
           ·obtain ⟨p3,hp3⟩:∃p3:Nat,(p3:Int)=q:=⟨q.toNat,by omega⟩
            subst hp3
            have hp3n:p3<s.size:=by omega
            have hp3i:(p3:Int)<(s.size:Int):=by omega
            have hp3z:(0:Int)≤(p3:Int):=by omega
            have hp23:p2≤p3:=by omega
            have HCX:Hid (costN (d+1) x+40 * p2≤40 * p3):=Hh (by omega)
            have gc3:=HGET.out p3 hp3n
            obtain ⟨c3,hc3⟩:∃c3,c3=s[p3]'hp3n:=⟨_,rfl⟩
            rw [←hc3] at gc3
            have hc3':=hc3.symm
            have SEM3:Hid (∀n0 R,itemsP (valueP d) (decide (k=5)) e n0 [] [] (l.drop (p0+1))=some R→∃n,contP (valueP d) (decide (k=5)) e n ns2 (nodesOf A++[x]) (c3::l.drop (p3+1))=some R):=Hh fun n0 R hi=>by
             obtain ⟨n,hb⟩:=SEM.out n0 _ hi
             unfold valP at hb
             cases hV:valueP d (l.drop p2) with
             | none=>rw [hV] at hb;cases hb
             | some z=>
              obtain ⟨z1,z2⟩:=z
              rw [hV] at hb
              obtain ⟨h1,h2,h3⟩:=HV5.out z1 z2 hV
              subst h1
              rw [←HL.out] at h3
              rw [h3,Int.toNat_natCast,drop_at gc3] at hb
              exact ⟨n,hb⟩
            clear hc3 VACV hq5 gc3
            have c5:=six_of HST6.out.nod
            have cx:=six_of hnx
            have b7:=(Br W6.heap.size W6).alloc (o:=.cells #[.int .i64 x.kind,.bool x.bool,.int .i64 x.num,.string x.text,.slice a1 l1 c1',.slice a2 l2 c2'] 28) (Lr _)
            have hst7:=HST6.out.below b7
            have hfr7:=HFR.out _ (HBS.out.trans (b7.mono HBS.out.size))
            have hB7:=HB6.out.trans (b7.mono HB6.out.size)
            have hn7:=Hn W6 (.cells #[.int .i64 x.kind,.bool x.bool,.int .i64 x.num,.string x.text,.slice a1 l1 c1',.slice a2 l2 c2'] 28)
            have HN7:Hid (∀q u,([.int .i64 x.kind,.bool x.bool,.int .i64 x.num,.string x.text,.slice a1 l1 c1',.slice a2 l2 c2']:List Value)[q]?=some u→(W6.alloc (.cells #[.int .i64 x.kind,.bool x.bool,.int .i64 x.num,.string x.text,.slice a1 l1 c1',.slice a2 l2 c2'] 28)).cell? ((⟨W6.heap.size,0,none⟩:Addr).add q)=some u):=Hh fun q u hq=>by
             have:=cells_lit _ hn7 rfl q u hq
             rw [Addr.add_lit,Nat.zero_add];exact this
            have hO7:=Hh hst7.items.1
            have hbs7:=hst7.lo.2.2.2
            have HST7:=Hh hst7
            have HFR7:=Hh hfr7
            have HB7:=Hh hB7
            have hA256:A.length≤256:=by omega
            clear hst7 hfr7 hn7 b7 hB7
            go_upto_region 17 with ((refine wpList_append_lies _ rfl (.tmp 103) (.tmp 105) 26 rfl C 28 ip (.agg #[.int .i64 0,.bool false,.int .i64 0,.string ⟨#[]⟩,.slice none 0 0,.slice none 0 0]) 6 88 hug HI2.out hz0 hz1 hz2 rfl (by decide) (.slice ai A.length ci) A.length _ rfl hO7.out ⟨W6.heap.size,0,none⟩ 1 1 ([.int .i64 x.kind,.bool x.bool,.int .i64 x.num,.string x.text,.slice a1 l1 c1',.slice a2 l2 c2']:List Value) rfl rfl HN7.out HONE.out (by decide) (by unfold maxLen;omega) (by omega) hbs7 _ rfl ?_);intro g8 c8 W8 hown hgrow hat hlt;(have hk8:=(HST7.out.apart (.inr rfl) hgrow nb HST7.out.lo.2.2.1).trans HST7.out.nod);(have hf8:=free_six hk8);(have hd8:=six_of hk8);(have HOW:=Hh (Ai hown (Ai hgrow hat)));clear hown hgrow hat hk8)
            have hst8:=HST7.out.item HOW.out.1 HOW.out.2.1 (own_at HOW.out.2.2) HFR7.out
            have hB8:Below w.heap.size w (W8.setCell ⟨nb,5,none⟩ (.slice (some ⟨g8,0,none⟩) (A.length+1) c8)):=by
             have h1:=HB7.out.grown HOW.out.2.1 HB7.out.size (fun b hb=>by have:=(HST7.out.items.1.lt b hb).1;have:=HST7.out.lo;omega)
             exact h1.grown (grown_set W8 nb 5 _) (by have:=h1.size;omega) (fun b hb=>by cases hb;have:=HST7.out.lo;omega)
            have hA8:(nodesOf (A++[(([.int .i64 x.kind,.bool x.bool,.int .i64 x.num,.string x.text,.slice a1 l1 c1',.slice a2 l2 c2']:List Value),x)]))=nodesOf A++[x]:=by simp [nodesOf]
            generalize W8.setCell ⟨nb,5,none⟩ (.slice (some ⟨g8,0,none⟩) (A.length+1) c8)=w8 at hst8 hB8 ⊢
            have HST8:=Hh hst8
            have HB8:=Hh hB8
            have HA8:=Hh hA8
            have HF8:Hid (∀y,y ∈ A++[(([.int .i64 x.kind,.bool x.bool,.int .i64 x.num,.string x.text,.slice a1 l1 c1',.slice a2 l2 c2']:List Value),x)]→lowV (d+1) y.2∧numsB (d+1) y.2=true):=Hh fun y hy=>by
             rcases List.mem_append.1 hy with hy | hy
             ·exact HFI.out y hy
             ·cases List.mem_singleton.1 hy;exact HF5.out
            clear hst8 hB8 hA8 hf8 hd8 HOW hO7 HN7 c5 cx hnx
            by_cases hce:c3=e
            ·have tce:((c3.toNat:Int) == (e.toNat:Int))=true:=by rw [hce];simp
             have HCE:=Hh hce
             clear hce
             have HPW:IntKind.i64.wrap ((p3:Int)+1)=(p3:Int)+1:=IntWalk.i64_in _ (by omega)
             obtain ⟨an2,cn2,hvn2⟩:=HST8.out.vnForm
             subst hvn2
             have f0:=free_six HST8.out.nod
             have c0:=six_of HST8.out.nod
             have f1:=free_six HST8.out.res
             have c1:=six_of HST8.out.res
             have hne:¬w.heap.size=nb:=by have:=HST8.out.lo;omega
             have hne2:¬nb=w.heap.size:=fun e=>hne e.symm
             go_wp2
             have hput:=six_put HST8.out.res (.int .i64 k) (.bool false) (.int .i64 0) (.string ⟨#[]⟩) (.slice an2 ns2.length cn2) (.slice (some ⟨g8,0,none⟩) (A.length+1) c8)
             refine bodyPost_ret (v:=.tuple #[.agg #[.int .i64 k,.bool false,.int .i64 0,.string ⟨#[]⟩,.slice an2 ns2.length cn2,.slice (some ⟨g8,0,none⟩) (A.length+1) c8],.int .i64 ((p3:Int)+1)]) ?_ ?_ ?_
             rotate_left
             ·rfl
             ·exact rlist_done HST8.out HB8.out (.inr (by rw [HA8.out,costs_push];have:=HP2.out;have:=HC2.out;have:=HCX.out;omega)) HF8.out (by rw [HA8.out,Lg,nodesOf,List.length_map];show A.length+1≤1000000;omega) (fun y t hV=>by
               obtain ⟨n0,ns',its',hi,rfl⟩:=hV
               rw [←HL.out] at hi
               obtain ⟨n,hb⟩:=SEM3.out n0 _ hi
               rw [HCE.out] at hb
               have:=contP_done hb
               cases this
               rw [HA8.out]
               exact ⟨rfl,by omega,by rw [HL.out,show ((p3:Int)+1).toNat=p3+1 by omega]⟩)
             ·obtain ⟨q0,q1,q2,q3,q4,q5⟩:=six_of hput
              simp only [set6] at q0 q1 q2 q3 q4 q5
              simp [results,Tryz.results127,go_sem,q0,q1,q2,q3,q4,q5]
            ·have tce:((c3.toNat:Int) == (e.toNat:Int))=false:=by
              rw [beq_eq_false_iff_ne];intro h;exact hce (UInt8.toNat_inj.1 (by omega))
             have hcd:=(six_of HST8.out.nod).2.2.2.2.2
             have hVAC:(c3 ≠ 44∨256<A.length+1)→∀y t,¬PItemsIs d k e (s.data.toList.drop (p0+1)) y t:=fun hbad y t ⟨n0,ns',its',hi,_⟩=>by
              rw [←HL.out] at hi
              obtain ⟨n,hb⟩:=SEM3.out n0 _ hi
              have hb':(if c3=e then some ((ns2,nodesOf A++[x]),l.drop (p3+1)) else if c3 ≠ 44∨256<(nodesOf A++[x]).length then none else itemsP (valueP d) (decide (k=5)) e n ns2 (nodesOf A++[x]) (l.drop (p3+1)))=some ((ns',its'),t):=hb
              rw [if_neg hce,if_pos (by rw [Lg,nodesOf,List.length_map];exact hbad)] at hb'
              cases hb'
             have HVAC:=Hh hVAC
             have HCE:=Hh hce
             clear hVAC hce
             by_cases h44:c3=44
             ·have t44:((c3.toNat:Int) == 44)=true:=by rw [h44];rfl
              have t44b:((c3.toNat:Int) != 44)=false:=by rw [bne,t44];rfl
              by_cases h256:256<A.length+1
              ·have t256:(256:Int)<(A.length:Int)+1:=by omega
               have VAC:=Hh (HVAC.out (.inr h256))
               clear h44
               have f1:=free_six HST8.out.res
               have c1:=six_of HST8.out.res
               go_wp2
               refine ret_node (v:=.int .i64 (-1)) HST8.out.res Tryz.results127 rfl rfl rfl ?_
               exact rleaf_res 0 false 0 ⟨#[]⟩ (-1) HB8.out (.inl rfl) (by decide) (by decide) (fun y t hV=>absurd hV (VAC.out y t))
              ·have t256:¬ (256:Int)<(A.length:Int)+1:=by omega
               have HSEM4:Hid (∀n0 R,itemsP (valueP d) (decide (k=5)) e n0 [] [] (l.drop (p0+1))=some R→∃n,itemsP (valueP d) (decide (k=5)) e n ns2 (nodesOf (A++[(([.int .i64 x.kind,.bool x.bool,.int .i64 x.num,.string x.text,.slice a1 l1 c1',.slice a2 l2 c2']:List Value),x)])) (l.drop (p3+1))=some R):=Hh fun n0 R hi=>by
                obtain ⟨n,hb⟩:=SEM3.out n0 _ hi
                have hb':(if c3=e then some ((ns2,nodesOf A++[x]),l.drop (p3+1)) else if c3 ≠ 44∨256<(nodesOf A++[x]).length then none else itemsP (valueP d) (decide (k=5)) e n ns2 (nodesOf A++[x]) (l.drop (p3+1)))=some R:=hb
                rw [if_neg HCE.out,if_neg (by rw [Lg,nodesOf,List.length_map];rintro (h | h);exact h h44;exact h256 h)] at hb'
                rw [HA8.out]
                exact ⟨n,hb'⟩
               have HH44:=Hh h44
               clear h44
               go_wp2
               go_roundw
               case rel=>exact ⟨p3+1,_,_,ns2,_,by go_num,⟨HST8.out,HB8.out,HF8.out,by rw [Lg];show A.length+1≤256;omega,by rw [Lg];exact HNL.out,by have:=HP2.out;omega,by omega,by rw [HA8.out,costs_push];have:=HC2.out;have:=HCX.out;omega⟩,HSEM4.out⟩
               case measure=>simp [intOf];have:=HP2.out;omega
             ·have t44:((c3.toNat:Int) == 44)=false:=by
               rw [beq_eq_false_iff_ne];intro h;exact h44 (UInt8.toNat_inj.1 (by rw [show (44:UInt8).toNat=44 from rfl];omega))
              have t44b:((c3.toNat:Int) != 44)=true:=by rw [bne,t44];rfl
              have VAC:=Hh (HVAC.out (.inl h44))
              clear h44
              have f1:=free_six HST8.out.res
              have c1:=six_of HST8.out.res
              go_wp2
              refine ret_node (v:=.int .i64 (-1)) HST8.out.res Tryz.results127 rfl rfl rfl ?_
              exact rleaf_res 0 false 0 ⟨#[]⟩ (-1) HB8.out (.inl rfl) (by decide) (by decide) (fun y t hV=>absurd hV (VAC.out y t))
         ·have t58:((cq.toNat:Int) == 58)=false:=by
           rw [beq_eq_false_iff_ne];intro h;exact h58 (UInt8.toNat_inj.1 (by rw [show (58:UInt8).toNat=58 from rfl];omega))
          have t58b:((cq.toNat:Int) != 58)=true:=by rw [bne,t58];rfl
          have VAC:=Hh (VACQ.out (.inr (.inr (by rw [Int.toNat_natCast,HGQ.out];exact fun h=>h58 (Option.some.inj h)))))
          clear h58
          have f1:=free_six HS3.out.res
          have c1:=six_of HS3.out.res
          go_wp2
          refine ret_node (v:=.int .i64 (-1)) HS3.out.res Tryz.results127 rfl rfl rfl ?_
          exact rleaf_res 0 false 0 ⟨#[]⟩ (-1) HB3.out (.inl rfl) (by decide) (by decide) (fun y t hV=>absurd hV (VAC.out y t))
      ·have t34:((c.toNat:Int) == 34)=false:=by
        rw [beq_eq_false_iff_ne];intro h;exact hc34 (UInt8.toNat_inj.1 (by rw [show (34:UInt8).toNat=34 from rfl];omega))
       have t34b:((c.toNat:Int) != 34)=true:=by rw [bne,t34];rfl
       have VAC:=Hh (VACN.out fun s' t1 ⟨r,h1,h2⟩=>by rw [drop_at HG.out] at h1;exact hc34 (List.cons.inj h1).1)
       clear hc34
       have f1:=free_six HS.out.res
       have c1:=six_of HS.out.res
       go_wp2
       refine ret_node (v:=.int .i64 (-1)) HS.out.res Tryz.results127 rfl rfl rfl ?_
       exact rleaf_res 0 false 0 ⟨#[]⟩ (-1) HB.out (.inl rfl) (by decide) (by decide) (fun y t hV=>absurd hV (VAC.out y t))
     ·have hpj:¬ (p:Int)<(s.size:Int):=by omega
      have VAC:=Hh (VACN.out fun s' t1 ⟨r,h1,h2⟩=>by rw [List.drop_eq_nil_of_le (by have:=HSZ.out;omega)] at h1;cases h1)
      have f1:=free_six HS.out.res
      have c1:=six_of HS.out.res
      go_wp2
      refine ret_node (v:=.int .i64 (-1)) HS.out.res Tryz.results127 rfl rfl rfl ?_
      exact rleaf_res 0 false 0 ⟨#[]⟩ (-1) HB.out (.inl rfl) (by decide) (by decide) (fun y t hV=>absurd hV (VAC.out y t))
    ·have hk5b:(k == 5)=false:=by simpa using hk5
     have SEM:Hid (∀n0 R,itemsP (valueP d) (decide (k=5)) e n0 [] [] (l.drop (p0+1))=some R→∃n,valP (valueP d) (decide (k=5)) e n ns (nodesOf A) (l.drop p)=some R):=Hh fun n0 R hi=>by
      obtain ⟨n,hb⟩:=HSI.out n0 R hi
      rw [decide_eq_false hk5] at hb ⊢
      exact ⟨n,list_body hb⟩
     clear hk5 HSI
     go_upto_region 13 with fail
     obtain ⟨p2,hp2⟩:∃p2,p2=p:=⟨_,rfl⟩
     have HP2:Hid (p≤p2∧p2≤s.size∧p0<p2):=Hh ⟨by omega,by omega,by omega⟩
     rw [←hp2] at SEM
     rw [←hp2]
     have HNL:Hid (ns.length≤A.length+1):=Hh (by omega)
     have HC2:=HCO
     rw [←hp2] at HC2
     have HS2:=HS
     have HB2:=HB
     clear hp2 HS HB c5
     generalize ns=ns2 at HS2 SEM HNL HC2
     generalize vn=vn2 at HS2 ⊢
     generalize wr=wz at HS2 HB2 ⊢
     have hp2i:(p2:Int)≤(s.size:Int):=by have:=HP2.out;omega
     have hp2z:(0:Int)≤(p2:Int):=by omega
     have hds:(d:Int)+1 - 1=(d:Int):=by omega
     have hdw:IntKind.i64.wrap (d:Int)=(d:Int):=IntWalk.i64_in _ (by omega)
     have NC:=Hh (RVH.out s p2 wz (by have:=HS2.out.lo;omega) (by have:=HP2.out;omega) hs)
     rw [←HL.out] at NC
     go_upto_region 14 with ((with_reducible refine (NC.out).mono ?_);rintro e3 w5 ⟨cs,x,q,rfl,hnode,hb5,hq5,hf5,hv5⟩;go_loud ((obtain ⟨a1,l1,c1',a2,l2,c2',hcs⟩:=hnode.slices);subst hcs))
     have bS:=(Br w5.heap.size w5).alloc (o:=.cells #[.int .i64 x.kind,.bool x.bool,.int .i64 x.num,.string x.text,.slice a1 l1 c1',.slice a2 l2 c2'] 28) (Lr _)
     have hst5:=(HS2.out.below hb5).below bS
     have hnx:=Hn w5 (.cells #[.int .i64 x.kind,.bool x.bool,.int .i64 x.num,.string x.text,.slice a1 l1 c1',.slice a2 l2 c2'] 28)
     have hfr:=fun (w7:World) (hb:Below w5.heap.size w5 w7)=>HS2.out.fresh hnode hb
     have hone:=hnode.one
     have hB6:=(HB2.out.trans (hb5.mono HB2.out.size)).trans (bS.mono (by have:=HB2.out.size;have:=hb5.size;omega))
     obtain ⟨W6,hW6⟩:∃W,W=w5.alloc (.cells #[.int .i64 x.kind,.bool x.bool,.int .i64 x.num,.string x.text,.slice a1 l1 c1',.slice a2 l2 c2'] 28):=⟨_,rfl⟩
     obtain ⟨g6,hg6⟩:∃g,g=w5.heap.size:=⟨_,rfl⟩
     rw [←hW6] at bS hst5 hnx hB6
     rw [←hg6] at hnx
     try rw [←hW6]
     try rw [←hg6]
     have HST6:=Hh hst5
     have HB6:=Hh hB6
     have HFR:=Hh hfr
     have HBS:=Hh bS
     have HONE:=Hh hone
     have HF5:=Hh hf5
     have HV5:=Hh hv5
     clear hW6 hg6 hst5 hB6 hfr bS hone hf5 hv5 hnode hb5 NC
     have VACV:Hid ((q<0∨(s.size:Int)≤q)→∀y t,¬PItemsIs d k e (s.data.toList.drop (p0+1)) y t):=Hh fun hbad y t ⟨n0,ns',its',hi,_⟩=>by
      rw [←HL.out] at hi
      obtain ⟨n,hb⟩:=SEM.out n0 _ hi
      unfold valP at hb
      cases hV:valueP d (l.drop p2) with
      | none=>rw [hV] at hb;cases hb
      | some z=>
       obtain ⟨z1,z2⟩:=z
       rw [hV] at hb
       obtain ⟨-,h2,h3⟩:=HV5.out z1 z2 hV
       rw [←HL.out] at h3
       rcases hbad with hbad | hbad
       ·omega
       ·rw [h3,List.drop_eq_nil_of_le (by have:=HSZ.out;omega)] at hb
        cases hb
     by_cases hq0:q<0
     ·have VAC:=Hh (VACV.out (.inl hq0))
      have f1:=free_six HST6.out.res
      have c1:=six_of HST6.out.res
      go_wp2
      refine ret_node (v:=.int .i64 (-1)) HST6.out.res Tryz.results127 rfl rfl rfl ?_
      exact rleaf_res 0 false 0 ⟨#[]⟩ (-1) HB6.out (.inl rfl) (by decide) (by decide) (fun y t hV=>absurd hV (VAC.out y t))
     ·by_cases hqs:(s.size:Int)≤q
      ·have VAC:=Hh (VACV.out (.inr hqs))
       have f1:=free_six HST6.out.res
       have c1:=six_of HST6.out.res
       go_wp2
       refine ret_node (v:=.int .i64 (-1)) HST6.out.res Tryz.results127 rfl rfl rfl ?_
       exact rleaf_res 0 false 0 ⟨#[]⟩ (-1) HB6.out (.inl rfl) (by decide) (by decide) (fun y t hV=>absurd hV (VAC.out y t))
      ·obtain ⟨p3,hp3⟩:∃p3:Nat,(p3:Int)=q:=⟨q.toNat,by omega⟩
       subst hp3
       have hp3n:p3<s.size:=by omega
       have hp3i:(p3:Int)<(s.size:Int):=by omega
       have hp3z:(0:Int)≤(p3:Int):=by omega
       have hp23:p2≤p3:=by omega
       have HCX:Hid (costN (d+1) x+40 * p2≤40 * p3):=Hh (by omega)
       have gc3:=HGET.out p3 hp3n
       obtain ⟨c3,hc3⟩:∃c3,c3=s[p3]'hp3n:=⟨_,rfl⟩
       rw [←hc3] at gc3
       have hc3':=hc3.symm
       have SEM3:Hid (∀n0 R,itemsP (valueP d) (decide (k=5)) e n0 [] [] (l.drop (p0+1))=some R→∃n,contP (valueP d) (decide (k=5)) e n ns2 (nodesOf A++[x]) (c3::l.drop (p3+1))=some R):=Hh fun n0 R hi=>by
        obtain ⟨n,hb⟩:=SEM.out n0 _ hi
        unfold valP at hb
        cases hV:valueP d (l.drop p2) with
        | none=>rw [hV] at hb;cases hb
        | some z=>
         obtain ⟨z1,z2⟩:=z
         rw [hV] at hb
         obtain ⟨h1,h2,h3⟩:=HV5.out z1 z2 hV
         subst h1
         rw [←HL.out] at h3
         rw [h3,Int.toNat_natCast,drop_at gc3] at hb
         exact ⟨n,hb⟩
       clear hc3 VACV hq5 gc3
       have c5:=six_of HST6.out.nod
       have cx:=six_of hnx
       have b7:=(Br W6.heap.size W6).alloc (o:=.cells #[.int .i64 x.kind,.bool x.bool,.int .i64 x.num,.string x.text,.slice a1 l1 c1',.slice a2 l2 c2'] 28) (Lr _)
       have hst7:=HST6.out.below b7
       have hfr7:=HFR.out _ (HBS.out.trans (b7.mono HBS.out.size))
       have hB7:=HB6.out.trans (b7.mono HB6.out.size)
       have hn7:=Hn W6 (.cells #[.int .i64 x.kind,.bool x.bool,.int .i64 x.num,.string x.text,.slice a1 l1 c1',.slice a2 l2 c2'] 28)
       have HN7:Hid (∀q u,([.int .i64 x.kind,.bool x.bool,.int .i64 x.num,.string x.text,.slice a1 l1 c1',.slice a2 l2 c2']:List Value)[q]?=some u→(W6.alloc (.cells #[.int .i64 x.kind,.bool x.bool,.int .i64 x.num,.string x.text,.slice a1 l1 c1',.slice a2 l2 c2'] 28)).cell? ((⟨W6.heap.size,0,none⟩:Addr).add q)=some u):=Hh fun q u hq=>by
        have:=cells_lit _ hn7 rfl q u hq
        rw [Addr.add_lit,Nat.zero_add];exact this
       have hO7:=Hh hst7.items.1
       have hbs7:=hst7.lo.2.2.2
       have HST7:=Hh hst7
       have HFR7:=Hh hfr7
       have HB7:=Hh hB7
       have hA256:A.length≤256:=by omega
       clear hst7 hfr7 hn7 b7 hB7
       go_upto_region 17 with ((refine wpList_append_lies _ rfl (.tmp 103) (.tmp 105) 26 rfl C 28 ip (.agg #[.int .i64 0,.bool false,.int .i64 0,.string ⟨#[]⟩,.slice none 0 0,.slice none 0 0]) 6 88 hug HI2.out hz0 hz1 hz2 rfl (by decide) (.slice ai A.length ci) A.length _ rfl hO7.out ⟨W6.heap.size,0,none⟩ 1 1 ([.int .i64 x.kind,.bool x.bool,.int .i64 x.num,.string x.text,.slice a1 l1 c1',.slice a2 l2 c2']:List Value) rfl rfl HN7.out HONE.out (by decide) (by unfold maxLen;omega) (by omega) hbs7 _ rfl ?_);intro g8 c8 W8 hown hgrow hat hlt;(have hk8:=(HST7.out.apart (.inr rfl) hgrow nb HST7.out.lo.2.2.1).trans HST7.out.nod);(have hf8:=free_six hk8);(have hd8:=six_of hk8);(have HOW:=Hh (Ai hown (Ai hgrow hat)));clear hown hgrow hat hk8)
       have hst8:=HST7.out.item HOW.out.1 HOW.out.2.1 (own_at HOW.out.2.2) HFR7.out
       have hB8:Below w.heap.size w (W8.setCell ⟨nb,5,none⟩ (.slice (some ⟨g8,0,none⟩) (A.length+1) c8)):=by
        have h1:=HB7.out.grown HOW.out.2.1 HB7.out.size (fun b hb=>by have:=(HST7.out.items.1.lt b hb).1;have:=HST7.out.lo;omega)
        exact h1.grown (grown_set W8 nb 5 _) (by have:=h1.size;omega) (fun b hb=>by cases hb;have:=HST7.out.lo;omega)
       have hA8:(nodesOf (A++[(([.int .i64 x.kind,.bool x.bool,.int .i64 x.num,.string x.text,.slice a1 l1 c1',.slice a2 l2 c2']:List Value),x)]))=nodesOf A++[x]:=by simp [nodesOf]
       generalize W8.setCell ⟨nb,5,none⟩ (.slice (some ⟨g8,0,none⟩) (A.length+1) c8)=w8 at hst8 hB8 ⊢
       have HST8:=Hh hst8
       have HB8:=Hh hB8
       have HA8:=Hh hA8
       have HF8:Hid (∀y,y ∈ A++[(([.int .i64 x.kind,.bool x.bool,.int .i64 x.num,.string x.text,.slice a1 l1 c1',.slice a2 l2 c2']:List Value),x)]→lowV (d+1) y.2∧numsB (d+1) y.2=true):=Hh fun y hy=>by
        rcases List.mem_append.1 hy with hy | hy
        ·exact HFI.out y hy
        ·cases List.mem_singleton.1 hy;exact HF5.out
       clear hst8 hB8 hA8 hf8 hd8 HOW hO7 HN7 c5 cx hnx
       by_cases hce:c3=e
       ·have tce:((c3.toNat:Int) == (e.toNat:Int))=true:=by rw [hce];simp
        have HCE:=Hh hce
        clear hce
        have HPW:IntKind.i64.wrap ((p3:Int)+1)=(p3:Int)+1:=IntWalk.i64_in _ (by omega)
        obtain ⟨an2,cn2,hvn2⟩:=HST8.out.vnForm
        subst hvn2
        have f0:=free_six HST8.out.nod
        have c0:=six_of HST8.out.nod
        have f1:=free_six HST8.out.res
        have c1:=six_of HST8.out.res
        have hne:¬w.heap.size=nb:=by have:=HST8.out.lo;omega
        have hne2:¬nb=w.heap.size:=fun e=>hne e.symm
        go_wp2
        have hput:=six_put HST8.out.res (.int .i64 k) (.bool false) (.int .i64 0) (.string ⟨#[]⟩) (.slice an2 ns2.length cn2) (.slice (some ⟨g8,0,none⟩) (A.length+1) c8)
        refine bodyPost_ret (v:=.tuple #[.agg #[.int .i64 k,.bool false,.int .i64 0,.string ⟨#[]⟩,.slice an2 ns2.length cn2,.slice (some ⟨g8,0,none⟩) (A.length+1) c8],.int .i64 ((p3:Int)+1)]) ?_ ?_ ?_
        rotate_left
        ·rfl
        ·exact rlist_done HST8.out HB8.out (.inr (by rw [HA8.out,costs_push];have:=HP2.out;have:=HC2.out;have:=HCX.out;omega)) HF8.out (by rw [HA8.out,Lg,nodesOf,List.length_map];show A.length+1≤1000000;omega) (fun y t hV=>by
          obtain ⟨n0,ns',its',hi,rfl⟩:=hV
          rw [←HL.out] at hi
          obtain ⟨n,hb⟩:=SEM3.out n0 _ hi
          rw [HCE.out] at hb
          have:=contP_done hb
          cases this
          rw [HA8.out]
          exact ⟨rfl,by omega,by rw [HL.out,show ((p3:Int)+1).toNat=p3+1 by omega]⟩)
        ·obtain ⟨q0,q1,q2,q3,q4,q5⟩:=six_of hput
         simp only [set6] at q0 q1 q2 q3 q4 q5
         simp [results,Tryz.results127,go_sem,q0,q1,q2,q3,q4,q5]
       ·have tce:((c3.toNat:Int) == (e.toNat:Int))=false:=by
         rw [beq_eq_false_iff_ne];intro h;exact hce (UInt8.toNat_inj.1 (by omega))
        have hcd:=(six_of HST8.out.nod).2.2.2.2.2
        have hVAC:(c3 ≠ 44∨256<A.length+1)→∀y t,¬PItemsIs d k e (s.data.toList.drop (p0+1)) y t:=fun hbad y t ⟨n0,ns',its',hi,_⟩=>by
         rw [←HL.out] at hi
         obtain ⟨n,hb⟩:=SEM3.out n0 _ hi
         have hb':(if c3=e then some ((ns2,nodesOf A++[x]),l.drop (p3+1)) else if c3 ≠ 44∨256<(nodesOf A++[x]).length then none else itemsP (valueP d) (decide (k=5)) e n ns2 (nodesOf A++[x]) (l.drop (p3+1)))=some ((ns',its'),t):=hb
         rw [if_neg hce,if_pos (by rw [Lg,nodesOf,List.length_map];exact hbad)] at hb'
         cases hb'
        have HVAC:=Hh hVAC
        have HCE:=Hh hce
        clear hVAC hce
        by_cases h44:c3=44
        ·have t44:((c3.toNat:Int) == 44)=true:=by rw [h44];rfl
         have t44b:((c3.toNat:Int) != 44)=false:=by rw [bne,t44];rfl
         by_cases h256:256<A.length+1
         ·have t256:(256:Int)<(A.length:Int)+1:=by omega
          have VAC:=Hh (HVAC.out (.inr h256))
          clear h44
          have f1:=free_six HST8.out.res
          have c1:=six_of HST8.out.res
          go_wp2
          refine ret_node (v:=.int .i64 (-1)) HST8.out.res Tryz.results127 rfl rfl rfl ?_
          exact rleaf_res 0 false 0 ⟨#[]⟩ (-1) HB8.out (.inl rfl) (by decide) (by decide) (fun y t hV=>absurd hV (VAC.out y t))
         ·have t256:¬ (256:Int)<(A.length:Int)+1:=by omega
          have HSEM4:Hid (∀n0 R,itemsP (valueP d) (decide (k=5)) e n0 [] [] (l.drop (p0+1))=some R→∃n,itemsP (valueP d) (decide (k=5)) e n ns2 (nodesOf (A++[(([.int .i64 x.kind,.bool x.bool,.int .i64 x.num,.string x.text,.slice a1 l1 c1',.slice a2 l2 c2']:List Value),x)])) (l.drop (p3+1))=some R):=Hh fun n0 R hi=>by
           obtain ⟨n,hb⟩:=SEM3.out n0 _ hi
           have hb':(if c3=e then some ((ns2,nodesOf A++[x]),l.drop (p3+1)) else if c3 ≠ 44∨256<(nodesOf A++[x]).length then none else itemsP (valueP d) (decide (k=5)) e n ns2 (nodesOf A++[x]) (l.drop (p3+1)))=some R:=hb
           rw [if_neg HCE.out,if_neg (by rw [Lg,nodesOf,List.length_map];rintro (h | h);exact h h44;exact h256 h)] at hb'
           rw [HA8.out]
           exact ⟨n,hb'⟩
          have HH44:=Hh h44
          clear h44
          go_wp2
          go_roundw
          case rel=>exact ⟨p3+1,_,_,ns2,_,by go_num,⟨HST8.out,HB8.out,HF8.out,by rw [Lg];show A.length+1≤256;omega,by rw [Lg];exact HNL.out,by have:=HP2.out;omega,by omega,by rw [HA8.out,costs_push];have:=HC2.out;have:=HCX.out;omega⟩,HSEM4.out⟩
          case measure=>simp [intOf];have:=HP2.out;omega
        ·have t44:((c3.toNat:Int) == 44)=false:=by
          rw [beq_eq_false_iff_ne];intro h;exact h44 (UInt8.toNat_inj.1 (by rw [show (44:UInt8).toNat=44 from rfl];omega))
         have t44b:((c3.toNat:Int) != 44)=true:=by rw [bne,t44];rfl
         have VAC:=Hh (HVAC.out (.inl h44))
         clear h44
         have f1:=free_six HST8.out.res
         have c1:=six_of HST8.out.res
         go_wp2
         refine ret_node (v:=.int .i64 (-1)) HST8.out.res Tryz.results127 rfl rfl rfl ?_
         exact rleaf_res 0 false 0 ⟨#[]⟩ (-1) HB8.out (.inl rfl) (by decide) (by decide) (fun y t hV=>absurd hV (VAC.out y t))
end Go.Proofs.YtcklddldejejcaaGreatDoor