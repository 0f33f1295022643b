/- The document's reader of the third serialisation: the items of a list or a map. -/
import Derived.Test.YtcklddldejejcaaGreatDoorCva
import Derived.Test.YtcklddldejejcaaGreatDoorMyd
set_option linter.unusedVariables false
set_option linter.unusedSimpArgs false
set_option maxHeartbeats 6400000
set_option maxRecDepth 100000
namespace Go.Proofs.YtcklddldejejcaaGreatDoor
open Go Go.ChangeShapes Go.WideShapes Go.ChangeAt Go.RowKit
def RmAt (d:Nat) (s:ByteArray) (p0:Nat):Prop:=∀ (p:Nat) (w:World),p0≤p→p≤s.size→0<w.heap.size→Calls Tryz.prog 85 #[.string s,.int .i64 (p:Int),.int .i64 (d:Int)] w (RcPost (MIs d s.data.toList p) d s p w)
theorem ritems_step (d:Nat) (hd20:d≤20) (s:ByteArray) (hs:s.size≤1000000) (p q1:Nat) (hpq:p<q1) (hqs:q1≤s.size) (R1':RmAt 1 s (p+1)) (RV:RmAt d s 0) (K:Int) (hK:K=4∨K=5) (n:Nat) (hn256:n≤256) (hli:MLs d K n s.data.toList p [] [] q1) (w:World) (hw0:0<w.heap.size):Calls Tryz.prog 138 #[.string s,.int .i64 (q1:Int),.int .i64 ((d:Int)+1),.int .i64 K,.int .i64 (n:Int)] w (RcPost (MIs (d+1) s.data.toList p) (d+1) s p w):=by
 have R1:=Hh R1'
 have RVH:Hid (∀ (s':ByteArray) (p:Nat) (w:World),0<w.heap.size→p≤s.size→s.size≤1000000→Calls Tryz.prog 85 #[.string s,.int .i64 (p:Int),.int .i64 (d:Int)] w (RcPost (MIs d s.data.toList p) d s p w)):=Hh fun _ p w h1 h2 _=>RV p w (Nat.zero_le _) h2 h1
 have HLI:=Hh hli
 clear R1' RV hli
 have hsi:(s.size:Int)≤1000000:=by omega
 have hq1z:(0:Int)≤(q1:Int):=by omega
 have hdz:(d:Int)≤20:=by omega
 have hd0:(0:Int)≤(d:Int):=by omega
 go_enter Tryz.func138,Tryz.ntmps138
 go_upto_region 1 with fail
 generalize ae:w.alloc _=w0
 obtain ⟨b0,k0⟩:=Al ae
 clear ae
 have B0:=Hh b0
 have K0:=Hh k0
 clear b0 k0
 obtain ⟨z2,hz2⟩:∃o,o=Obj.cells #[.int .i64 K,.bool false,.int .i64 0,.string ⟨#[]⟩,.slice none 0 0,.slice none 0 0] 28 (0,0):=⟨_,rfl⟩
 have hrr:=(Below.heap_alloc w0 z2 _ (lt_of_block K0.out)).trans K0.out
 have hn1:=Hn w0 z2
 have bb:=B0.out.alloc (o:=z2) B0.out.size
 obtain ⟨nb,hnb⟩:∃nb,nb=w0.heap.size:=⟨_,rfl⟩
 rw [←hnb] at hn1
 have hwlt:w.heap.size<nb:=by have:=lt_of_block K0.out;omega
 obtain ⟨W2,hW2⟩:∃W,W=w0.alloc z2:=⟨_,rfl⟩
 have hst0:NSt 28 9 (d+1) w W2 0 nb W2.heap.size K (.slice none 0 0) (.slice none 0 0) [] []:=by
  rw [hW2]
  exact NSt.begin hrr (by rw [hn1,hz2]) hw0 hwlt (grown_of_below bb (Lr _) _)
 rw [←hW2] at bb
 obtain ⟨C,hC⟩:∃C,C=W2.heap.size:=⟨_,rfl⟩
 rw [←hC] at hst0
 have HST:=Hh hst0
 have HBB:=Hh bb
 rw [hz2] at hW2
 clear hst0 bb hrr hn1 hC hz2
 go_upto_region 2 with fail
 rw [←hW2]
 rw [←hnb]
 clear hW2 hnb z2 hwlt
 obtain ⟨ip,hip,hz0,hz1,hz2⟩:=infon
 obtain ⟨iq,hiq,hy0,hy1,hy2⟩:=infos
 have HI2:=Hh hip
 have HIQ:=Hh hiq
 clear hip hiq
 have hug:=Tryz.underlying26
 have hus:=Tryz.underlying25
 go_upto_region 3 with fail
 go_loopw [1,20] (fun vq vj wr=>∃ (pq:Nat) (vn vi:Value) (ns:List ByteArray) (A:List NC),vq=.int .i64 (pq:Int)∧vj=.int .i64 (A.length:Int)∧CSt d n K s p nb C w wr vn vi ns A pq∧MLs d K n s.data.toList p ns (nodesOf A) pq) (fun _ vj _=>n - (intOf vj).toNat)
 case atStart=>exact ⟨q1,_,_,[],[],rfl,rfl,⟨HST.out,HBB.out,(fun y hy=>by simp at hy),Nat.zero_le _,by omega,by omega,by simp [cnSum,costs,nodesOf];omega⟩,HLI.out⟩
 case round=>
  clear HST HBB HLI K0 B0
  obtain ⟨pq,vn,vi,ns,A,rfl,rfl,⟨hst,hbel,hfi,hAn,hpp,hpqs,hco⟩,hsem⟩:=hrel
  have HCO:=Hh hco
  clear hco
  obtain ⟨ai,ci,hvi⟩:=hst.viForm
  subst hvi
  have HS:=Hh hst
  have HB:=Hh hbel
  have HFI:=Hh hfi
  have HSEM:=Hh hsem
  have hpqi:(pq:Int)≤(s.size:Int):=by omega
  have hpqz:(0:Int)≤(pq:Int):=by omega
  have hnl:(nodesOf A).length=A.length:=by rw [nodesOf,List.length_map]
  have HNLX:=Hh hnl
  clear hst hbel hfi hsem hnl
  by_cases hjn:A.length<n
  ·have hjni:(A.length:Int)<(n:Int):=by omega
   by_cases hm5:K=5
   ·have hm5b:(K == 5)=true:=by rw [hm5];rfl
    have HM5:Hid (K=5):=Hh (by omega)
    clear hm5
    have TT:=R1.out pq wr (by omega) (by omega) (by have:=HS.out.lo;omega)
    rw [show ((1:Nat):Int)=1 from rfl] at TT
    have TT:=Hh TT
    go_upto_region 6 with ((with_reducible refine (TT.out).mono ?_);rintro e2 w3 ⟨cs,x,q3,rfl,hnode,hb3,hq3,hf3,hv3⟩;go_loud ((obtain ⟨a1,l1,c1',a2,l2,c2',hcs⟩:=hnode.slices);subst hcs))
    have bS:=(Br w3.heap.size w3).alloc (o:=.cells #[.int .i64 x.kind,.bool x.bool,.int .i64 x.num,.string x.text,.slice a1 l1 c1',.slice a2 l2 c2'] 28) (Lr _)
    have hnx:=Hn w3 (.cells #[.int .i64 x.kind,.bool x.bool,.int .i64 x.num,.string x.text,.slice a1 l1 c1',.slice a2 l2 c2'] 28)
    have hst3:=(HS.out.below hb3).below bS
    have hB3:=(HB.out.trans (hb3.mono HB.out.size)).trans (bS.mono (by have:=HB.out.size;have:=hb3.size;omega))
    have HT3:=Hh (HSEM.out.text HM5.out (by rw [HNLX.out];exact hjn) hv3)
    have hxl:6 * x.text.size+24≤costN (1+1) x:=by rw [costN_succ];omega
    obtain ⟨W3,hW3⟩:∃W,W=w3.alloc (.cells #[.int .i64 x.kind,.bool x.bool,.int .i64 x.num,.string x.text,.slice a1 l1 c1',.slice a2 l2 c2'] 28):=⟨_,rfl⟩
    obtain ⟨g3,hg3⟩:∃g,g=w3.heap.size:=⟨_,rfl⟩
    rw [←hW3] at hst3 hnx hB3
    rw [←hg3] at hnx
    try rw [←hW3]
    try rw [←hg3]
    have HS3:=Hh hst3
    have HB3:=Hh hB3
    have cx:=six_of hnx
    clear hW3 hg3 hst3 hB3 bS hnode hb3 hv3 TT hnx hf3
    by_cases hq30:q3<0
    ·have VAC:=Hh (HT3.out.1 (.inl hq30))
     have f1:=free_six HS3.out.res
     have c1:=six_of HS3.out.res
     go_wp2
     refine ret_node (v:=.int .i64 (-1)) HS3.out.res Tryz.results138 rfl rfl rfl ?_
     exact cleaf_res 0 false 0 ⟨#[]⟩ (-1) HB3.out (.inl rfl) (by decide) (by decide) (fun y t hV=>absurd hV (VAC.out y t))
    by_cases hk3:¬x.kind=3
    ·have hk3':((x.kind:Int) == 3)=false:=by rw [beq_eq_false_iff_ne];exact hk3
     have VAC:=Hh (HT3.out.1 (.inr hk3))
     have f1:=free_six HS3.out.res
     have c1:=six_of HS3.out.res
     go_wp2
     refine ret_node (v:=.int .i64 (-1)) HS3.out.res Tryz.results138 rfl rfl rfl ?_
     exact cleaf_res 0 false 0 ⟨#[]⟩ (-1) HB3.out (.inl rfl) (by decide) (by decide) (fun y t hV=>absurd hV (VAC.out y t))
    have hk3':((x.kind:Int) == 3)=true:=by rw [Classical.not_not.1 hk3];rfl
    have hsl:x.text.size≤7000000:=by omega
    obtain ⟨p2,hp2⟩:∃p2:Nat,(p2:Int)=q3:=⟨q3.toNat,by omega⟩
    subst hp2
    have SEM:=Hh HT3.out.2
    rw [Int.toNat_natCast] at SEM
    have HC2:Hid (cnSum (ns++[x.text])+costs (d+1) (nodesOf A)+40 * (p+1)≤40 * p2):=Hh (by rw [cnSum_push];have:=HCO.out;omega)
    have HP2:Hid (pq≤p2∧p2≤s.size∧p<p2):=Hh ⟨by omega,by omega,by omega⟩
    clear hq3
    have c4:=(six_of HS3.out.nod).2.2.2.2.1
    have b4:=(Br W3.heap.size W3).alloc (o:=.cells #[.string x.text] 9) (Lr _)
    have hst4:=HS3.out.below b4
    have hB4:=HB3.out.trans (b4.mono HB3.out.size)
    have hn4:=Hn W3 (.cells #[.string x.text] 9)
    have HN4:Hid (∀q u,([.string x.text]:List Value)[q]?=some u→(W3.alloc (.cells #[.string x.text] 9)).cell? ((⟨W3.heap.size,0,none⟩:Addr).add q)=some u):=Hh fun q u hq=>by
     have:=cells_lit _ hn4 rfl q u hq
     rw [Addr.add_lit,Nat.zero_add];exact this
    have hO4:=Hh hst4.names.1
    have hbs4:=hst4.lo.2.2.2
    have HST4:=Hh hst4
    have HB4:=Hh hB4
    have hsz4:x.text.size≤maxLen - 2:=by unfold maxLen;omega
    have hnl4:ns.length≤5000000:=by
     have h1:=HCO.out
     have h2:8 * ns.length≤cnSum ns:=cnSum_len ns
     omega
    clear hst4 hn4 b4 hB4
    go_upto_region 9 with ((refine wpList_append_lies _ rfl (.tmp 39) (.tmp 42) 25 rfl C 9 iq (.string ⟨#[]⟩) 1 16 hus HIQ.out hy0 hy1 hy2 rfl (by decide) vn ns.length _ rfl hO4.out ⟨W3.heap.size,0,none⟩ 1 1 [.string x.text] rfl rfl HN4.out (by intro u hu;simp at hu;subst hu;rfl) (by decide) (by unfold maxLen;omega) (by omega) hbs4 _ rfl ?_);intro gn cn Wn hown hgrow hat hlt;(have hk8:=(HST4.out.apart (.inl rfl) hgrow nb HST4.out.lo.2.2.1).trans HST4.out.nod);(have hf8:=free_six hk8);(have hd8:=six_of hk8);(have HOW:=Hh (Ai hown (Ai hgrow hat)));clear hown hgrow hat hk8)
    have hsty:=HST4.out.name HOW.out.1 HOW.out.2.1 (own_at HOW.out.2.2) hsz4
    have hBy:Below w.heap.size w (Wn.setCell ⟨nb,4,none⟩ (.slice (some ⟨gn,0,none⟩) (ns.length+1) cn)):=by
     have h1:=HB4.out.grown HOW.out.2.1 HB4.out.size (fun b hb=>by have:=(HST4.out.names.1.lt b hb).1;have:=HST4.out.lo;omega)
     exact h1.grown (grown_set Wn nb 4 _) (by have:=h1.size;omega) (fun b hb=>by cases hb;have:=HST4.out.lo;omega)
    generalize Wn.setCell ⟨nb,4,none⟩ (.slice (some ⟨gn,0,none⟩) (ns.length+1) cn)=wz at hsty hBy ⊢
    have HS2:=Hh hsty
    have HB2:=Hh hBy
    clear hsty hBy HST4 HB4 HOW hO4 HN4 HS3 HB3 HS HB c4 hf8 hd8 cx hk3 hk3' hxl hsl HT3 HSEM hsz4 hnl4
    generalize ns++[x.text]=ns2 at HS2 SEM HC2
    generalize Value.slice (some ⟨gn,0,none⟩) (ns.length+1) cn=vn2 at HS2 ⊢
    have hp2i:(p2:Int)≤(s.size:Int):=by have:=HP2.out;omega
    have hp2z:(0:Int)≤(p2:Int):=by omega
    have hds:(d:Int)+1 - 1=(d:Int):=by omega
    have hdw:IntKind.i64.wrap (d:Int)=(d:Int):=IntWalk.i64_in _ (by omega)
    have NC:=Hh (RVH.out s p2 wz (by have:=HS2.out.lo;omega) (by have:=HP2.out;omega) hs)
    go_upto_region 10 with ((with_reducible refine (NC.out).mono ?_);rintro e3 w5 ⟨cs,x,q5,rfl,hnode,hb5,hq5,hf5,hv5⟩;go_loud ((obtain ⟨a1,l1,c1',a2,l2,c2',hcs⟩:=hnode.slices);subst hcs))
    have bS:=(Br w5.heap.size w5).alloc (o:=.cells #[.int .i64 x.kind,.bool x.bool,.int .i64 x.num,.string x.text,.slice a1 l1 c1',.slice a2 l2 c2'] 28) (Lr _)
    have hst5:=(HS2.out.below hb5).below bS
    have hnx:=Hn w5 (.cells #[.int .i64 x.kind,.bool x.bool,.int .i64 x.num,.string x.text,.slice a1 l1 c1',.slice a2 l2 c2'] 28)
    have hfr:=fun (w7:World) (hb:Below w5.heap.size w5 w7)=>HS2.out.fresh hnode hb
    have hone:=hnode.one
    have hB6:=(HB2.out.trans (hb5.mono HB2.out.size)).trans (bS.mono (by have:=HB2.out.size;have:=hb5.size;omega))
    obtain ⟨W6,hW6⟩:∃W,W=w5.alloc (.cells #[.int .i64 x.kind,.bool x.bool,.int .i64 x.num,.string x.text,.slice a1 l1 c1',.slice a2 l2 c2'] 28):=⟨_,rfl⟩
    obtain ⟨g6,hg6⟩:∃g,g=w5.heap.size:=⟨_,rfl⟩
    rw [←hW6] at bS hst5 hnx hB6
    rw [←hg6] at hnx
    try rw [←hW6]
    try rw [←hg6]
    have HST6:=Hh hst5
    have HB6:=Hh hB6
    have HFR:=Hh hfr
    have HBS:=Hh bS
    have HONE:=Hh hone
    have HF5:=Hh hf5
    have HV5:=Hh (SEM.out.item hv5)
    clear hW6 hg6 hst5 hB6 hfr bS hone hf5 hv5 hnode hb5 NC
    by_cases hq50:q5<0
    ·have VAC:=Hh (HV5.out.1 hq50)
     have f1:=free_six HST6.out.res
     have c1:=six_of HST6.out.res
     go_wp2
     refine ret_node (v:=.int .i64 (-1)) HST6.out.res Tryz.results138 rfl rfl rfl ?_
     exact cleaf_res 0 false 0 ⟨#[]⟩ (-1) HB6.out (.inl rfl) (by decide) (by decide) (fun y t hV=>absurd hV (VAC.out y t))
    ·obtain ⟨p3,hp3⟩:∃p3:Nat,(p3:Int)=q5:=⟨q5.toNat,by omega⟩
     subst hp3
     have hp3i:(p3:Int)≤(s.size:Int):=by omega
     have hp3z:(0:Int)≤(p3:Int):=by omega
     have HCX:Hid (costN (d+1) x+8+40 * p2≤40 * p3):=Hh (by omega)
     have SEM3:=Hh HV5.out.2
     rw [Int.toNat_natCast] at SEM3
     clear hq5
     have c5:=six_of HST6.out.nod
     have cx:=six_of hnx
     have b7:=(Br W6.heap.size W6).alloc (o:=.cells #[.int .i64 x.kind,.bool x.bool,.int .i64 x.num,.string x.text,.slice a1 l1 c1',.slice a2 l2 c2'] 28) (Lr _)
     have hst7:=HST6.out.below b7
     have hfr7:=HFR.out _ (HBS.out.trans (b7.mono HBS.out.size))
     have hB7:=HB6.out.trans (b7.mono HB6.out.size)
     have hn7:=Hn W6 (.cells #[.int .i64 x.kind,.bool x.bool,.int .i64 x.num,.string x.text,.slice a1 l1 c1',.slice a2 l2 c2'] 28)
     have HN7:Hid (∀q u,([.int .i64 x.kind,.bool x.bool,.int .i64 x.num,.string x.text,.slice a1 l1 c1',.slice a2 l2 c2']:List Value)[q]?=some u→(W6.alloc (.cells #[.int .i64 x.kind,.bool x.bool,.int .i64 x.num,.string x.text,.slice a1 l1 c1',.slice a2 l2 c2'] 28)).cell? ((⟨W6.heap.size,0,none⟩:Addr).add q)=some u):=Hh fun q u hq=>by
      have:=cells_lit _ hn7 rfl q u hq
      rw [Addr.add_lit,Nat.zero_add];exact this
     have hO7:=Hh hst7.items.1
     have hbs7:=hst7.lo.2.2.2
     have HST7:=Hh hst7
     have HFR7:=Hh hfr7
     have HB7:=Hh hB7
     clear hst7 hfr7 hn7 b7 hB7
     go_upto_region 13 with ((refine wpList_append_lies _ rfl (.tmp 58) (.tmp 60) 26 rfl C 28 ip (.agg #[.int .i64 0,.bool false,.int .i64 0,.string ⟨#[]⟩,.slice none 0 0,.slice none 0 0]) 6 88 hug HI2.out hz0 hz1 hz2 rfl (by decide) (.slice ai A.length ci) A.length _ rfl hO7.out ⟨W6.heap.size,0,none⟩ 1 1 ([.int .i64 x.kind,.bool x.bool,.int .i64 x.num,.string x.text,.slice a1 l1 c1',.slice a2 l2 c2']:List Value) rfl rfl HN7.out HONE.out (by decide) (by unfold maxLen;omega) (by omega) hbs7 _ rfl ?_);intro g8 c8 W8 hown hgrow hat hlt;(have hk8:=(HST7.out.apart (.inr rfl) hgrow nb HST7.out.lo.2.2.1).trans HST7.out.nod);(have hf8:=free_six hk8);(have hd8:=six_of hk8);(have HOW:=Hh (Ai hown (Ai hgrow hat)));clear hown hgrow hat hk8)
     have hst8:=HST7.out.item HOW.out.1 HOW.out.2.1 (own_at HOW.out.2.2) HFR7.out
     have hB8:Below w.heap.size w (W8.setCell ⟨nb,5,none⟩ (.slice (some ⟨g8,0,none⟩) (A.length+1) c8)):=by
      have h1:=HB7.out.grown HOW.out.2.1 HB7.out.size (fun b hb=>by have:=(HST7.out.items.1.lt b hb).1;have:=HST7.out.lo;omega)
      exact h1.grown (grown_set W8 nb 5 _) (by have:=h1.size;omega) (fun b hb=>by cases hb;have:=HST7.out.lo;omega)
     have hA8:(nodesOf (A++[(([.int .i64 x.kind,.bool x.bool,.int .i64 x.num,.string x.text,.slice a1 l1 c1',.slice a2 l2 c2']:List Value),x)]))=nodesOf A++[x]:=by simp [nodesOf]
     generalize W8.setCell ⟨nb,5,none⟩ (.slice (some ⟨g8,0,none⟩) (A.length+1) c8)=w8 at hst8 hB8 ⊢
     have HST8:=Hh hst8
     have HB8:=Hh hB8
     have HA8:=Hh hA8
     have HF8:Hid (∀y,y ∈ A++[(([.int .i64 x.kind,.bool x.bool,.int .i64 x.num,.string x.text,.slice a1 l1 c1',.slice a2 l2 c2']:List Value),x)]→lowV (d+1) y.2∧numsB (d+1) y.2=true):=Hh fun y hy=>by
      rcases List.mem_append.1 hy with hy | hy
      ·exact HFI.out y hy
      ·cases List.mem_singleton.1 hy;exact HF5.out
     have hjw:IntKind.i64.wrap ((A.length:Int)+1)=(A.length:Int)+1:=IntWalk.i64_in _ (by omega)
     clear hst8 hB8 hA8 hf8 hd8 HOW hO7 HN7 c5 cx hnx
     go_wp2
     go_roundw
     case rel=>exact ⟨p3,_,_,ns2,_,rfl,by rw [Lg];go_num,⟨HST8.out,HB8.out,HF8.out,by rw [Lg];show A.length+1≤n;omega,by have:=HCX.out;have:=HP2.out;omega,by omega,by rw [HA8.out,costs_push];have:=HC2.out;have:=HCX.out;omega⟩,by rw [HA8.out];exact SEM3.out⟩
     case measure=>simp [intOf];omega
   ·have hm5b:(K == 5)=false:=by rw [beq_eq_false_iff_ne];omega
    obtain ⟨p2,hp2⟩:∃p2,p2=pq:=⟨_,rfl⟩
    have SEM:=Hh (HSEM.out.more (by omega) (by rw [HNLX.out];exact hjn))
    rw [←hp2] at SEM
    go_upto_region 9 with fail
    rw [←hp2]
    have HP2:Hid (pq≤p2∧p2≤s.size∧p<p2):=Hh ⟨by omega,by omega,by omega⟩
    have HC2:=HCO
    rw [←hp2] at HC2
    have HS2:=HS
    have HB2:=HB
    clear hp2 HS HB HSEM
    generalize ns=ns2 at HS2 SEM HC2
    generalize vn=vn2 at HS2 ⊢
    generalize wr=wz at HS2 HB2 ⊢
    have hp2i:(p2:Int)≤(s.size:Int):=by have:=HP2.out;omega
    have hp2z:(0:Int)≤(p2:Int):=by omega
    have hds:(d:Int)+1 - 1=(d:Int):=by omega
    have hdw:IntKind.i64.wrap (d:Int)=(d:Int):=IntWalk.i64_in _ (by omega)
    have NC:=Hh (RVH.out s p2 wz (by have:=HS2.out.lo;omega) (by have:=HP2.out;omega) hs)
    go_upto_region 10 with ((with_reducible refine (NC.out).mono ?_);rintro e3 w5 ⟨cs,x,q5,rfl,hnode,hb5,hq5,hf5,hv5⟩;go_loud ((obtain ⟨a1,l1,c1',a2,l2,c2',hcs⟩:=hnode.slices);subst hcs))
    have bS:=(Br w5.heap.size w5).alloc (o:=.cells #[.int .i64 x.kind,.bool x.bool,.int .i64 x.num,.string x.text,.slice a1 l1 c1',.slice a2 l2 c2'] 28) (Lr _)
    have hst5:=(HS2.out.below hb5).below bS
    have hnx:=Hn w5 (.cells #[.int .i64 x.kind,.bool x.bool,.int .i64 x.num,.string x.text,.slice a1 l1 c1',.slice a2 l2 c2'] 28)
    have hfr:=fun (w7:World) (hb:Below w5.heap.size w5 w7)=>HS2.out.fresh hnode hb
    have hone:=hnode.one
    have hB6:=(HB2.out.trans (hb5.mono HB2.out.size)).trans (bS.mono (by have:=HB2.out.size;have:=hb5.size;omega))
    obtain ⟨W6,hW6⟩:∃W,W=w5.alloc (.cells #[.int .i64 x.kind,.bool x.bool,.int .i64 x.num,.string x.text,.slice a1 l1 c1',.slice a2 l2 c2'] 28):=⟨_,rfl⟩
    obtain ⟨g6,hg6⟩:∃g,g=w5.heap.size:=⟨_,rfl⟩
    rw [←hW6] at bS hst5 hnx hB6
    rw [←hg6] at hnx
    try rw [←hW6]
    try rw [←hg6]
    have HST6:=Hh hst5
    have HB6:=Hh hB6
    have HFR:=Hh hfr
    have HBS:=Hh bS
    have HONE:=Hh hone
    have HF5:=Hh hf5
    have HV5:=Hh (SEM.out.item hv5)
    clear hW6 hg6 hst5 hB6 hfr bS hone hf5 hv5 hnode hb5 NC
    by_cases hq50:q5<0
    ·have VAC:=Hh (HV5.out.1 hq50)
     have f1:=free_six HST6.out.res
     have c1:=six_of HST6.out.res
     go_wp2
     refine ret_node (v:=.int .i64 (-1)) HST6.out.res Tryz.results138 rfl rfl rfl ?_
     exact cleaf_res 0 false 0 ⟨#[]⟩ (-1) HB6.out (.inl rfl) (by decide) (by decide) (fun y t hV=>absurd hV (VAC.out y t))
    ·obtain ⟨p3,hp3⟩:∃p3:Nat,(p3:Int)=q5:=⟨q5.toNat,by omega⟩
     subst hp3
     have hp3i:(p3:Int)≤(s.size:Int):=by omega
     have hp3z:(0:Int)≤(p3:Int):=by omega
     have HCX:Hid (costN (d+1) x+8+40 * p2≤40 * p3):=Hh (by omega)
     have SEM3:=Hh HV5.out.2
     rw [Int.toNat_natCast] at SEM3
     clear hq5
     have c5:=six_of HST6.out.nod
     have cx:=six_of hnx
     have b7:=(Br W6.heap.size W6).alloc (o:=.cells #[.int .i64 x.kind,.bool x.bool,.int .i64 x.num,.string x.text,.slice a1 l1 c1',.slice a2 l2 c2'] 28) (Lr _)
     have hst7:=HST6.out.below b7
     have hfr7:=HFR.out _ (HBS.out.trans (b7.mono HBS.out.size))
     have hB7:=HB6.out.trans (b7.mono HB6.out.size)
     have hn7:=Hn W6 (.cells #[.int .i64 x.kind,.bool x.bool,.int .i64 x.num,.string x.text,.slice a1 l1 c1',.slice a2 l2 c2'] 28)
     have HN7:Hid (∀q u,([.int .i64 x.kind,.bool x.bool,.int .i64 x.num,.string x.text,.slice a1 l1 c1',.slice a2 l2 c2']:List Value)[q]?=some u→(W6.alloc (.cells #[.int .i64 x.kind,.bool x.bool,.int .i64 x.num,.string x.text,.slice a1 l1 c1',.slice a2 l2 c2'] 28)).cell? ((⟨W6.heap.size,0,none⟩:Addr).add q)=some u):=Hh fun q u hq=>by
      have:=cells_lit _ hn7 rfl q u hq
      rw [Addr.add_lit,Nat.zero_add];exact this
     have hO7:=Hh hst7.items.1
     have hbs7:=hst7.lo.2.2.2
     have HST7:=Hh hst7
     have HFR7:=Hh hfr7
     have HB7:=Hh hB7
     clear hst7 hfr7 hn7 b7 hB7
     go_upto_region 13 with ((refine wpList_append_lies _ rfl (.tmp 58) (.tmp 60) 26 rfl C 28 ip (.agg #[.int .i64 0,.bool false,.int .i64 0,.string ⟨#[]⟩,.slice none 0 0,.slice none 0 0]) 6 88 hug HI2.out hz0 hz1 hz2 rfl (by decide) (.slice ai A.length ci) A.length _ rfl hO7.out ⟨W6.heap.size,0,none⟩ 1 1 ([.int .i64 x.kind,.bool x.bool,.int .i64 x.num,.string x.text,.slice a1 l1 c1',.slice a2 l2 c2']:List Value) rfl rfl HN7.out HONE.out (by decide) (by unfold maxLen;omega) (by omega) hbs7 _ rfl ?_);intro g8 c8 W8 hown hgrow hat hlt;(have hk8:=(HST7.out.apart (.inr rfl) hgrow nb HST7.out.lo.2.2.1).trans HST7.out.nod);(have hf8:=free_six hk8);(have hd8:=six_of hk8);(have HOW:=Hh (Ai hown (Ai hgrow hat)));clear hown hgrow hat hk8)
     have hst8:=HST7.out.item HOW.out.1 HOW.out.2.1 (own_at HOW.out.2.2) HFR7.out
     have hB8:Below w.heap.size w (W8.setCell ⟨nb,5,none⟩ (.slice (some ⟨g8,0,none⟩) (A.length+1) c8)):=by
      have h1:=HB7.out.grown HOW.out.2.1 HB7.out.size (fun b hb=>by have:=(HST7.out.items.1.lt b hb).1;have:=HST7.out.lo;omega)
      exact h1.grown (grown_set W8 nb 5 _) (by have:=h1.size;omega) (fun b hb=>by cases hb;have:=HST7.out.lo;omega)
     have hA8:(nodesOf (A++[(([.int .i64 x.kind,.bool x.bool,.int .i64 x.num,.string x.text,.slice a1 l1 c1',.slice a2 l2 c2']:List Value),x)]))=nodesOf A++[x]:=by simp [nodesOf]
     generalize W8.setCell ⟨nb,5,none⟩ (.slice (some ⟨g8,0,none⟩) (A.length+1) c8)=w8 at hst8 hB8 ⊢
     have HST8:=Hh hst8
     have HB8:=Hh hB8
     have HA8:=Hh hA8
     have HF8:Hid (∀y,y ∈ A++[(([.int .i64 x.kind,.bool x.bool,.int .i64 x.num,.string x.text,.slice a1 l1 c1',.slice a2 l2 c2']:List Value),x)]→lowV (d+1) y.2∧numsB (d+1) y.2=true):=Hh fun y hy=>by
      rcases List.mem_append.1 hy with hy | hy
      ·exact HFI.out y hy
      ·cases List.mem_singleton.1 hy;exact HF5.out
     have hjw:IntKind.i64.wrap ((A.length:Int)+1)=(A.length:Int)+1:=IntWalk.i64_in _ (by omega)
     clear hst8 hB8 hA8 hf8 hd8 HOW hO7 HN7 c5 cx hnx
     go_wp2
     go_roundw
     case rel=>exact ⟨p3,_,_,ns2,_,rfl,by rw [Lg];go_num,⟨HST8.out,HB8.out,HF8.out,by rw [Lg];show A.length+1≤n;omega,by have:=HCX.out;have:=HP2.out;omega,by omega,by rw [HA8.out,costs_push];have:=HC2.out;have:=HCX.out;omega⟩,by rw [HA8.out];exact SEM3.out⟩
     case measure=>simp [intOf];omega
  ·have hjni:¬ (A.length:Int)<(n:Int):=by omega
   have hje:A.length=n:=by omega
   have DN:=Hh (HSEM.out.done (by rw [HNLX.out];exact hje))
   obtain ⟨an,cn,hvn⟩:=HS.out.vnForm
   subst hvn
   have f0:=free_six HS.out.nod
   have c0:=six_of HS.out.nod
   have f1:=free_six HS.out.res
   have c1:=six_of HS.out.res
   have hne:¬w.heap.size=nb:=by have:=HS.out.lo;omega
   have hne2:¬nb=w.heap.size:=fun e=>hne e.symm
   clear HSEM hje
   go_wp2
   refine ret_node (v:=.int .i64 (pq:Int)) HS.out.res Tryz.results138 rfl rfl rfl ?_
   exact clist_done HS.out HB.out (.inr (by have:=HCO.out;omega)) HFI.out (by rw [HNLX.out];omega) (fun y t h=>by obtain ⟨h1,h2⟩:=DN.out y t h;exact ⟨h1,by omega,by rw [h2,Int.toNat_natCast]⟩)
end Go.Proofs.YtcklddldejejcaaGreatDoor