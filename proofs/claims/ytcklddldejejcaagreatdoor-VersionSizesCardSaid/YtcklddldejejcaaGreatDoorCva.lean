/- The document's reader of the second serialisation: values at every depth. -/
import Derived.Test.YtcklddldejejcaaGreatDoorCrv
import Derived.Test.YtcklddldejejcaaGreatDoorJcost
import Derived.Deep.CutRange
set_option linter.unusedVariables false
set_option linter.unusedSimpArgs false
set_option maxRecDepth 100000
set_option maxHeartbeats 6400000
namespace Go.Proofs.YtcklddldejejcaaGreatDoor
open Go Go.ChangeShapes Go.WideShapes Go.ChangeAt Go.RowKit
def RcPost (V:ND→List UInt8→Prop) (d:Nat) (s:ByteArray) (p:Nat) (w:World) (e:Ending) (w':World):Prop:=∃ (cs:List Value) (x:ND) (q:Int),e=.returned (.tuple #[.agg cs.toArray,.int .i64 q])∧NodeIn (d+1) (fun b=>w.heap.size≤b∧b<w'.heap.size) w' cs x∧Below w.heap.size w w'∧(q=-1∨((p:Int)≤q∧q≤(s.size:Int)∧(costN (d+1) x:Int)+8≤40 * (q - (p:Int))))∧(lowV (d+1) x∧numsB (d+1) x=true)∧∀y t,V y t→x=y∧0≤q∧t=s.data.toList.drop q.toNat
theorem cleaf_res {V:ND→List UInt8→Prop} {d p:Nat} {s:ByteArray} {w wx:World} (k:Int) (b:Bool) (z:Int) (t:ByteArray) (q:Int) (hb:Below w.heap.size w wx) (hq:q=-1∨((p:Int)≤q∧q≤(s.size:Int)∧32+6 * (t.size:Int)≤40 * (q - (p:Int)))) (ht:t.size≤maxLen - 2) (hz:wideI z=true)
 (hV:∀y t',V y t'→(.mk k b z t [] [])=y∧0≤q∧t'=s.data.toList.drop q.toNat) :
 RcPost V d s p w (.returned (.tuple #[.agg #[.int .i64 k,.bool b,.int .i64 z,.string t,.slice none 0 0,.slice none 0 0],.int .i64 q])) (set6 wx w.heap.size (.int .i64 k) (.bool b) (.int .i64 z) (.string t) (.slice none 0 0) (.slice none 0 0)):=by
 have hgs:=grown_set6 wx w.heap.size (.int .i64 k) (.bool b) (.int .i64 z) (.string t) (.slice none 0 0) (.slice none 0 0)
 refine ⟨[.int .i64 k,.bool b,.int .i64 z,.string t,.slice none 0 0,.slice none 0 0],_,q,rfl,(node_leaf _ _ k b z t ht).deeper (by omega),hb.grown hgs hb.size (fun k hk=>by cases hk;exact Lr _),hq.imp_right (fun h=>⟨h.1,h.2.1,by rw [costN_succ];show ((24+6 * t.size+0+0:Nat):Int)+8≤_;have:=h.2.2;omega⟩),⟨⟨by simp [ND.items],fun y hy=>by simp [ND.items] at hy⟩,?_⟩,hV⟩
 rw [numsB_succ,Bool.and_eq_true]
 exact ⟨hz,rfl⟩
theorem cnumber_any (z:Int) (w:World):Calls Tryz.prog 133 #[.int .i64 z] w fun e w'=>e=.returned (.agg #[.int .i64 2,.bool false,.int .i64 z,.string ⟨#[]⟩,.slice none 0 0,.slice none 0 0])∧Below w.heap.size w w':=by
 have b0:=(Br w.heap.size w).alloc (o:=.cells #[.int .i64 2,.bool false,.int .i64 z,.string ⟨#[]⟩,.slice none 0 0,.slice none 0 0] 28) (Lr _)
 have k0:=Hn w (.cells #[.int .i64 2,.bool false,.int .i64 z,.string ⟨#[]⟩,.slice none 0 0,.slice none 0 0] 28)
 obtain ⟨q0,q1,q2,q3,q4,q5⟩:=six_of k0
 go_enter Tryz.func133,Tryz.ntmps133
 go_wp2
 refine bodyPost_ret (v:=.agg #[.int .i64 2,.bool false,.int .i64 z,.string ⟨#[]⟩,.slice none 0 0,.slice none 0 0]) ?_ ?_ ?_
 rotate_left
 ·rfl
 ·exact ⟨rfl,b0⟩
 ·simp [results,Tryz.results133,go_sem,q0,q1,q2,q3,q4,q5]
theorem ctext5_any (z:ByteArray) (w:World):Calls Tryz.prog 33 #[.string z] w fun e w'=>e=.returned (.agg #[.int .i64 3,.bool false,.int .i64 0,.string z,.slice none 0 0,.slice none 0 0])∧Below w.heap.size w w':=by
 have b0:=(Br w.heap.size w).alloc (o:=.cells #[.int .i64 3,.bool false,.int .i64 0,.string z,.slice none 0 0,.slice none 0 0] 28) (Lr _)
 have k0:=Hn w (.cells #[.int .i64 3,.bool false,.int .i64 0,.string z,.slice none 0 0,.slice none 0 0] 28)
 obtain ⟨q0,q1,q2,q3,q4,q5⟩:=six_of k0
 go_enter Tryz.func33,Tryz.ntmps33
 go_wp2
 refine bodyPost_ret (v:=.agg #[.int .i64 3,.bool false,.int .i64 0,.string z,.slice none 0 0,.slice none 0 0]) ?_ ?_ ?_
 rotate_left
 ·rfl
 ·exact ⟨rfl,b0⟩
 ·simp [results,Tryz.results33,go_sem,q0,q1,q2,q3,q4,q5]
def cnSum (ns:List ByteArray):Nat:=(ns.map fun s=>6 * s.size+8).sum
theorem cnSum_push (ns:List ByteArray) (s:ByteArray):cnSum (ns++[s])=cnSum ns+(6 * s.size+8):=by unfold cnSum;rw [List.map_append,List.sum_append];rfl
theorem cnSum_len:∀ns:List ByteArray,8 * ns.length≤cnSum ns
 | []=>Nat.zero_le _
 | s::t=>by
  have:=cnSum_len t
  unfold cnSum at this ⊢
  rw [List.map_cons,List.sum_cons,List.length_cons]
  omega
def CSt (d n:Nat) (k:Int) (s:ByteArray) (p0 nb C:Nat) (w wx:World) (vn vi:Value) (ns:List ByteArray) (A:List NC) (p:Nat):Prop:=
 NSt 28 9 (d+1) w wx 0 nb C k vn vi ns A∧Below w.heap.size w wx∧(∀y,y ∈ A→lowV (d+1) y.2∧numsB (d+1) y.2=true)∧A.length≤n∧p0<p∧p≤s.size∧cnSum ns+costs (d+1) (nodesOf A)+40 * (p0+1)≤40 * p
theorem clist_done {V:ND→List UInt8→Prop} {d:Nat} {k:Int} {s:ByteArray} {p0 nb C:Nat} {w wx:World} {vn vi:Value} {ns:List ByteArray} {A:List NC} {q:Int} (hst:NSt 28 9 (d+1) w wx 0 nb C k vn vi ns A) (hb:Below w.heap.size w wx) (hq:q=-1∨((p0:Int)≤q∧q≤(s.size:Int)∧((32+cnSum ns+costs (d+1) (nodesOf A):Nat):Int)≤40 * (q - (p0:Int)))) (hf:∀y,y ∈ A→lowV (d+1) y.2∧numsB (d+1) y.2=true) (hm:(nodesOf A).length≤1000000)
 (hV:∀y t,V y t→(.mk k false 0 ⟨#[]⟩ ns (nodesOf A))=y∧0≤q∧t=s.data.toList.drop q.toNat) :
 RcPost V (d+1) s p0 w (.returned (.tuple #[.agg #[.int .i64 k,.bool false,.int .i64 0,.string ⟨#[]⟩,vn,vi],.int .i64 q])) (set6 wx w.heap.size (.int .i64 k) (.bool false) (.int .i64 0) (.string ⟨#[]⟩) vn vi):=by
 have hgs:=grown_set6 wx w.heap.size (.int .i64 k) (.bool false) (.int .i64 0) (.string ⟨#[]⟩) vn vi
 refine ⟨[.int .i64 k,.bool false,.int .i64 0,.string ⟨#[]⟩,vn,vi],.mk k false 0 ⟨#[]⟩ ns (nodesOf A),q,rfl,hst.done.1,hb.grown hgs hb.size (fun k hk=>by cases hk;exact Lr _),hq.imp_right (fun h=>⟨h.1,h.2.1,Int.le_trans (Int.le_of_eq (by rw [costN_succ];show ((24+6 * 0+cnSum ns+costs (d+1) (nodesOf A):Nat):Int)+8=_;omega)) h.2.2⟩),⟨⟨hm,?_⟩,?_⟩,hV⟩
 ·intro y hy
  obtain ⟨z,hz,rfl⟩:=List.mem_map.1 (show y ∈ nodesOf A from hy)
  exact (hf z hz).1
 ·rw [numsB_succ,Bool.and_eq_true,List.all_eq_true]
  refine ⟨show wideI 0=true by decide,fun y hy=>?_⟩
  obtain ⟨z,hz,rfl⟩:=List.mem_map.1 (show y ∈ nodesOf A from hy)
  exact (hf z hz).2
def RcAt (d:Nat):Prop:=∀ (s:ByteArray) (p:Nat) (w:World),0<w.heap.size→p≤s.size→s.size≤1000000→Calls Tryz.prog 83 #[.string s,.int .i64 (p:Int),.int .i64 (d:Int)] w (RcPost (CIs d s.data.toList p) d s p w)
theorem cvalue_zero:RcAt 0:=by
 intro s p w hw0 hp hs
 have b0:=(Br w.heap.size w).alloc (o:=.cells #[.int .i64 0,.bool false,.int .i64 0,.string ⟨#[]⟩,.slice none 0 0,.slice none 0 0] 28) (Lr _)
 have k0:=Hn w (.cells #[.int .i64 0,.bool false,.int .i64 0,.string ⟨#[]⟩,.slice none 0 0,.slice none 0 0] 28)
 have B0:=Hh b0
 have K0:=Hh k0
 clear b0 k0
 go_enter Tryz.func83,Tryz.ntmps83
 go_upto_region 1 with fail
 generalize w.alloc (.cells #[.int .i64 0,.bool false,.int .i64 0,.string ⟨#[]⟩,.slice none 0 0,.slice none 0 0] 28)=w0 at B0 K0 ⊢
 have VAC:=Hh (fun y t (h:CIs 0 s.data.toList p y t)=>(by cases h.1:False))
 have f1:=free_six K0.out
 have c1:=six_of K0.out
 go_wp2
 refine ret_node (v:=.int .i64 (-1)) K0.out Tryz.results83 rfl rfl rfl ?_
 exact cleaf_res 0 false 0 ⟨#[]⟩ (-1) B0.out (.inl rfl) (by decide) (by decide) (fun y t hV=>absurd hV (VAC.out y t))
theorem cvalue_step (d:Nat) (hd20:d≤20) (RV:RcAt d):RcAt (d+1):=by
 intro s p w hw0 hps hs
 rw [show ((d+1:Nat):Int)=(d:Int)+1 by omega]
 have h1d:¬ (d:Int)+1<1:=by omega
 have RVH:=Hh RV
 have hdz:(d:Int)≤20:=by omega
 have hd0:(0:Int)≤(d:Int):=by omega
 have hsz:s.data.toList.length=s.size:=by rw [Array.length_toList];rfl
 have HSZ:=Hh hsz
 have HGET:Hid (∀ (p:Nat) (h:p<s.size),s.data.toList[p]?=some (s[p]'h)):=Hh fun p h=>by rw [List.getElem?_eq_getElem (by rw [Array.length_toList];exact h)];rfl
 have hsi:(s.size:Int)≤1000000:=by omega
 have hpi:(p:Int)≤(s.size:Int):=by omega
 have hpz:(0:Int)≤(p:Int):=by omega
 have hpd:decide ((p:Int)<0)=false:=decide_eq_false (by omega)
 have b0:=(Br w.heap.size w).alloc (o:=.cells #[.int .i64 0,.bool false,.int .i64 0,.string ⟨#[]⟩,.slice none 0 0,.slice none 0 0] 28) (Lr _)
 have k0:=Hn w (.cells #[.int .i64 0,.bool false,.int .i64 0,.string ⟨#[]⟩,.slice none 0 0,.slice none 0 0] 28)
 have wl:w.heap.size<(w.alloc (.cells #[.int .i64 0,.bool false,.int .i64 0,.string ⟨#[]⟩,.slice none 0 0,.slice none 0 0] 28)).heap.size:=by simp
 clear hsz RV
 go_enter Tryz.func83,Tryz.ntmps83
 go_upto_region 1 with fail
 generalize w.alloc (.cells #[.int .i64 0,.bool false,.int .i64 0,.string ⟨#[]⟩,.slice none 0 0,.slice none 0 0] 28)=w0 at b0 k0 wl ⊢
 have B0:=Hh b0
 have K0:=Hh k0
 have WL:=Hh wl
 clear b0 k0 wl
 by_cases hpn:p<s.size
 ·have hpj:(p:Int)<(s.size:Int):=by omega
  have hpj2:¬ (s.size:Int)≤(p:Int):=by omega
  have gc:=HGET.out p hpn
  obtain ⟨c,hcc⟩:∃c,c=s[p]'hpn:=⟨_,rfl⟩
  rw [←hcc] at gc
  have hc':=hcc.symm
  have HG:=Hh gc
  have hpw:IntKind.i64.wrap ((p:Int)+1)=(p:Int)+1:=IntWalk.i64_in _ (by omega)
  clear hcc gc
  by_cases n244:c=244
  ·have m244:((c.toNat:Int) == 244)=true:=by rw [n244];rfl
   have m245:((c.toNat:Int) == 245)=false:=by rw [n244];rfl
   have LF:=Hh (leaf_first (d:=d) (x:=.mk 1 false 0 ⟨#[]⟩ [] []) HG.out rfl rfl (by rw [n244];rfl))
   clear n244
   have f1:=free_six K0.out
   have c1:=six_of K0.out
   go_wp2
   refine ret_node (v:=.int .i64 ((p:Int)+1)) K0.out Tryz.results83 rfl rfl rfl ?_
   exact cleaf_res 1 false 0 ⟨#[]⟩ ((p:Int)+1) B0.out (.inr ⟨by omega,by omega,by show 32+6 * ((0:Nat):Int)≤_;omega⟩) (by decide) (by decide) (fun y t h=>by obtain ⟨h1,h2⟩:=LF.out y t h;exact ⟨h1,by omega,by rw [h2,show ((p:Int)+1).toNat=p+1 by omega]⟩)
  by_cases n245:c=245
  ·have m244:((c.toNat:Int) == 244)=false:=by rw [n245];rfl
   have m245:((c.toNat:Int) == 245)=true:=by rw [n245];rfl
   have LF:=Hh (leaf_first (d:=d) (x:=.mk 1 true 0 ⟨#[]⟩ [] []) HG.out rfl rfl (by rw [n245];rfl))
   clear n244 n245
   have f1:=free_six K0.out
   have c1:=six_of K0.out
   go_wp2
   refine ret_node (v:=.int .i64 ((p:Int)+1)) K0.out Tryz.results83 rfl rfl rfl ?_
   exact cleaf_res 1 true 0 ⟨#[]⟩ ((p:Int)+1) B0.out (.inr ⟨by omega,by omega,by show 32+6 * ((0:Nat):Int)≤_;omega⟩) (by decide) (by decide) (fun y t h=>by obtain ⟨h1,h2⟩:=LF.out y t h;exact ⟨h1,by omega,by rw [h2,show ((p:Int)+1).toNat=p+1 by omega]⟩)
  by_cases n246:c=246
  ·have m244:((c.toNat:Int) == 244)=false:=by rw [n246];rfl
   have m245:((c.toNat:Int) == 245)=false:=by rw [n246];rfl
   have m246:((c.toNat:Int) == 246)=true:=by rw [n246];rfl
   have LF:=Hh (leaf_first (d:=d) (x:=.mk 0 false 0 ⟨#[]⟩ [] []) HG.out rfl rfl (by rw [n246];rfl))
   clear n244 n245 n246
   have f1:=free_six K0.out
   have c1:=six_of K0.out
   go_wp2
   refine ret_node (v:=.int .i64 ((p:Int)+1)) K0.out Tryz.results83 rfl rfl rfl ?_
   exact cleaf_res 0 false 0 ⟨#[]⟩ ((p:Int)+1) B0.out (.inr ⟨by omega,by omega,by show 32+6 * ((0:Nat):Int)≤_;omega⟩) (by decide) (by decide) (fun y t h=>by obtain ⟨h1,h2⟩:=LF.out y t h;exact ⟨h1,by omega,by rw [h2,show ((p:Int)+1).toNat=p+1 by omega]⟩)
  have m244:((c.toNat:Int) == 244)=false:=by
   rw [beq_eq_false_iff_ne];intro h;exact n244 (UInt8.toNat_inj.1 (by rw [show (244:UInt8).toNat=244 from rfl];omega))
  have m245:((c.toNat:Int) == 245)=false:=by
   rw [beq_eq_false_iff_ne];intro h;exact n245 (UInt8.toNat_inj.1 (by rw [show (245:UInt8).toNat=245 from rfl];omega))
  have m246:((c.toNat:Int) == 246)=false:=by
   rw [beq_eq_false_iff_ne];intro h;exact n246 (UInt8.toNat_inj.1 (by rw [show (246:UInt8).toNat=246 from rfl];omega))
  have H7:Hid (∀y t,CIs (d+1) s.data.toList p y t→cMaj y ≠ 7):=Hh fun y t h=>not_seven HG.out n244 n245 n246 h
  clear n244 n245 n246
  have RR:=Hh (fun wx=>rread_any s p wx hps hs)
  go_upto_region 10 with ((with_reducible refine (RR.out _).mono ?_);rintro e w1 ⟨m,n,q,rfl,hb,hm8,hn64,hq,hat⟩)
  have HBE:=Hh hb
  have HAT:=Hh hat
  have hr1:=(hb.block _ (lt_of_block K0.out)).trans K0.out
  have HR1:=Hh hr1
  have HB1:=Hh (B0.out.trans (hb.mono B0.out.size))
  clear hb hat hr1 RR
  by_cases hq0:q<0
  ·have VAC:=Hh (fun y t (h:CIs (d+1) s.data.toList p y t)=>(by have:=(vhead HAT.out h).2.2.1;omega:False))
   have f1:=free_six HR1.out
   have c1:=six_of HR1.out
   go_wp2
   refine ret_node (v:=.int .i64 (-1)) HR1.out Tryz.results83 rfl rfl rfl ?_
   exact cleaf_res 0 false 0 ⟨#[]⟩ (-1) HB1.out (.inl rfl) (by decide) (by decide) (fun y t hV=>absurd hV (VAC.out y t))
  obtain ⟨q1,hq1⟩:∃q1:Nat,q=(q1:Int):=⟨q.toNat,by omega⟩
  subst hq1
  have hpq:p<q1:=by omega
  have hqs:q1≤s.size:=by omega
  have hq1i:(q1:Int)≤(s.size:Int):=by omega
  have hq1z:(0:Int)≤(q1:Int):=by omega
  have hqd:decide ((q1:Int)<0)=false:=decide_eq_false (by omega)
  have HC:Hid (∀y t,CIs (d+1) s.data.toList p y t→m=cMaj y∧n=cCnt y):=Hh fun y t h=>by
   obtain ⟨h1,h2,-,-⟩:=vhead HAT.out h
   exact ⟨h1,h2⟩
  clear hq
  by_cases h5:5<m
  ·have h5i:(5:Int)<(m:Int):=by omega
   have VAC:=Hh (fun y t (h:CIs (d+1) s.data.toList p y t)=>show False from by
    obtain ⟨h1,h2⟩:=HC.out y t h
    have h7:=H7.out y t h
    rcases cmaj_cases h.1 h.2.1 with ⟨c1,c2⟩ | ⟨c1,c2,c3⟩ | ⟨c1,c2,c3⟩ | ⟨c1,c2⟩ | ⟨c1,c2,c3,-⟩ | ⟨c1,c2,c3,-⟩ <;> omega)
   have f1:=free_six HR1.out
   have c1:=six_of HR1.out
   go_wp2
   refine ret_node (v:=.int .i64 (-1)) HR1.out Tryz.results83 rfl rfl rfl ?_
   exact cleaf_res 0 false 0 ⟨#[]⟩ (-1) HB1.out (.inl rfl) (by decide) (by decide) (fun y t hV=>absurd hV (VAC.out y t))
  have h5i:¬ (5:Int)<(m:Int):=by omega
  by_cases h2:m=2
  ·have h2i:((m:Int) == 2)=true:=by rw [h2];rfl
   have VAC:=Hh (fun y t (h:CIs (d+1) s.data.toList p y t)=>show False from by
    obtain ⟨h1,h2⟩:=HC.out y t h
    have h7:=H7.out y t h
    rcases cmaj_cases h.1 h.2.1 with ⟨c1,c2⟩ | ⟨c1,c2,c3⟩ | ⟨c1,c2,c3⟩ | ⟨c1,c2⟩ | ⟨c1,c2,c3,-⟩ | ⟨c1,c2,c3,-⟩ <;> omega)
   have f1:=free_six HR1.out
   have c1:=six_of HR1.out
   go_wp2
   refine ret_node (v:=.int .i64 (-1)) HR1.out Tryz.results83 rfl rfl rfl ?_
   exact cleaf_res 0 false 0 ⟨#[]⟩ (-1) HB1.out (.inl rfl) (by decide) (by decide) (fun y t hV=>absurd hV (VAC.out y t))
  have h2i:((m:Int) == 2)=false:=by rw [beq_eq_false_iff_ne];omega
  by_cases hl2:m<2
  ·have hl2i:(m:Int)<2:=by omega
   have h3i:¬ (3:Int)<(m:Int):=by omega
   by_cases hbig:9223372036854775807<n
   ·have hbi:(9223372036854775807:Int)<(n:Int):=by omega
    have VAC:=Hh (fun y t (h:CIs (d+1) s.data.toList p y t)=>show False from by
     obtain ⟨h1,h2⟩:=HC.out y t h
     have h7:=H7.out y t h
     rcases cmaj_cases h.1 h.2.1 with ⟨c1,c2⟩ | ⟨c1,c2,c3⟩ | ⟨c1,c2,c3⟩ | ⟨c1,c2⟩ | ⟨c1,c2,c3,-⟩ | ⟨c1,c2,c3,-⟩ <;> omega)
    have f1:=free_six HR1.out
    have c1:=six_of HR1.out
    go_wp2
    refine ret_node (v:=.int .i64 (-1)) HR1.out Tryz.results83 rfl rfl rfl ?_
    exact cleaf_res 0 false 0 ⟨#[]⟩ (-1) HB1.out (.inl rfl) (by decide) (by decide) (fun y t hV=>absurd hV (VAC.out y t))
   have hbi:¬ (9223372036854775807:Int)<(n:Int):=by omega
   have hwn:IntKind.i64.wrap (n:Int)=(n:Int):=IntWalk.i64_in _ (by omega)
   have hwn1:IntKind.i64.wrap (-1 - (n:Int))=-1 - (n:Int):=IntWalk.i64_in _ (by omega)
   have hwq:wideI (n:Int)=true:=by unfold wideI;rw [Bool.and_eq_true,decide_eq_true_eq,decide_eq_true_eq];omega
   have hwq1:wideI (-1 - (n:Int))=true:=by unfold wideI;rw [Bool.and_eq_true,decide_eq_true_eq,decide_eq_true_eq];omega
   have HWQ:=Hh (Ai hwq hwq1)
   clear hwq hwq1
   by_cases h0:m=0
   ·have h0i:((m:Int) == 0)=true:=by rw [h0];rfl
    have NN:=Hh (fun wx=>cnumber_any ((n:Int)) wx)
    have VV:Hid (∀y t,CIs (d+1) s.data.toList p y t→(.mk 2 false ((n:Int)) ⟨#[]⟩ [] [])=y∧0≤(q1:Int)∧t=s.data.toList.drop (q1:Int).toNat):=Hh fun y t h=>by
     obtain ⟨h1,h2,h3,h4⟩:=vhead HAT.out h
     have h7:=H7.out y t h
     rcases cmaj_cases h.1 h.2.1 with ⟨c1,c2⟩ | ⟨c1,c2,c3⟩ | ⟨c1,c2,c3⟩ | ⟨c1,c2⟩ | ⟨c1,c2⟩ | ⟨c1,c2⟩
     all_goals first
      | (exfalso;omega)
      | (refine ⟨by rw [h2];exact c3.symm,h3,?_⟩
         rw [←h4]
         have hk:y.kind=2:=by rw [c3];rfl
         unfold bodyC
         rw [hk];rfl)
    go_wp2_with (first | (go_at_call 133;(with_reducible refine (NN.out _).mono ?_);rintro e6 w6 ⟨rfl,hb6⟩;(have hr9:=(hb6.block _ (lt_of_block HR1.out)).trans HR1.out);(have f9:=free_six hr9);(have c9:=six_of hr9);(have HR9:=Hh hr9);(have HB9:=Hh (HB1.out.trans (hb6.mono HB1.out.size)));clear hr9 hb6))
    refine ret_node (v:=.int .i64 (q1:Int)) HR9.out Tryz.results83 rfl rfl rfl ?_
    exact cleaf_res 2 false ((n:Int)) ⟨#[]⟩ (q1:Int) HB9.out (.inr ⟨by omega,by omega,by show 32+6 * ((0:Nat):Int)≤_;omega⟩) (by decide) HWQ.out.1 VV.out
   ·have h0i:((m:Int) == 0)=false:=by rw [beq_eq_false_iff_ne];omega
    have h1i:((m:Int) == 1)=true:=by rw [show m=1 by omega];rfl
    have NN:=Hh (fun wx=>cnumber_any (-1 - (n:Int)) wx)
    have VV:Hid (∀y t,CIs (d+1) s.data.toList p y t→(.mk 2 false (-1 - (n:Int)) ⟨#[]⟩ [] [])=y∧0≤(q1:Int)∧t=s.data.toList.drop (q1:Int).toNat):=Hh fun y t h=>by
     obtain ⟨h1,h2,h3,h4⟩:=vhead HAT.out h
     have h7:=H7.out y t h
     rcases cmaj_cases h.1 h.2.1 with ⟨c1,c2⟩ | ⟨c1,c2,c3⟩ | ⟨c1,c2,c3⟩ | ⟨c1,c2⟩ | ⟨c1,c2⟩ | ⟨c1,c2⟩
     all_goals first
      | (exfalso;omega)
      | (refine ⟨by rw [h2];exact c3.symm,h3,?_⟩
         rw [←h4]
         have hk:y.kind=2:=by rw [c3];rfl
         unfold bodyC
         rw [hk];rfl)
    go_wp2_with (first | (go_at_call 133;(with_reducible refine (NN.out _).mono ?_);rintro e6 w6 ⟨rfl,hb6⟩;(have hr9:=(hb6.block _ (lt_of_block HR1.out)).trans HR1.out);(have f9:=free_six hr9);(have c9:=six_of hr9);(have HR9:=Hh hr9);(have HB9:=Hh (HB1.out.trans (hb6.mono HB1.out.size)));clear hr9 hb6))
    refine ret_node (v:=.int .i64 (q1:Int)) HR9.out Tryz.results83 rfl rfl rfl ?_
    exact cleaf_res 2 false (-1 - (n:Int)) ⟨#[]⟩ (q1:Int) HB9.out (.inr ⟨by omega,by omega,by show 32+6 * ((0:Nat):Int)≤_;omega⟩) (by decide) HWQ.out.2 VV.out
  have hl2i:¬ (m:Int)<2:=by omega
  have h0i:((m:Int) == 0)=false:=by rw [beq_eq_false_iff_ne];omega
  have h1i:((m:Int) == 1)=false:=by rw [beq_eq_false_iff_ne];omega
  by_cases h3:m=3
  ·have h3i:¬ (3:Int)<(m:Int):=by omega
   have h3b:((m:Int) == 3)=true:=by rw [h3];rfl
   have TT:=Hh (rtext7_any s p w1 hps hs)
   have NT:=Hh (fun sl wx=>ctext5_any sl wx)
   go_upto_region 18 with ((with_reducible refine (TT.out).mono ?_);rintro e5 w5 ⟨sl,q5,rfl,hb5,hsl5,hq5,hsl0,hv5⟩)
   have VV:Hid (∀y t,CIs (d+1) s.data.toList p y t→(.mk 3 false 0 sl [] [])=y∧0≤q5∧t=s.data.toList.drop q5.toNat):=Hh fun y t h=>by
    obtain ⟨h1,h2,-,-⟩:=vhead HAT.out h
    have h7:=H7.out y t h
    rcases cmaj_cases h.1 h.2.1 with ⟨c1,c2⟩ | ⟨c1,c2,c3⟩ | ⟨c1,c2,c3⟩ | ⟨c1,c2,c3,c4⟩ | ⟨c1,c2⟩ | ⟨c1,c2⟩
    all_goals first
     | (exfalso;omega)
     | (have h9:=h.2.2
        rw [c4] at h9
        obtain ⟨e1,e2,e3⟩:=hv5 _ t c2 h9
        exact ⟨by rw [e1];exact c3.symm,e2,e3⟩)
   have hsm5:sl.size≤maxLen - 2:=by unfold maxLen;omega
   have hqq5:q5=-1∨((p:Int)≤q5∧q5≤(s.size:Int)∧32+6 * (sl.size:Int)≤40 * (q5 - (p:Int))):=by omega
   have HQ5:=Hh (Ai hsm5 hqq5)
   have HR5:=Hh ((hb5.block _ (lt_of_block HR1.out)).trans HR1.out)
   have HB5:=Hh (HB1.out.trans (hb5.mono HB1.out.size))
   clear hv5 hsm5 hqq5 hb5 TT hsl5 hq5 hsl0
   go_wp2_with (first | (go_at_call 33;(with_reducible refine (NT.out _ _).mono ?_);rintro e6 w6 ⟨rfl,hb6⟩;(have hr9:=(hb6.block _ (lt_of_block HR5.out)).trans HR5.out);(have f9:=free_six hr9);(have c9:=six_of hr9);(have HR9:=Hh hr9);(have HB9:=Hh (HB5.out.trans (hb6.mono HB5.out.size)));clear hr9 hb6))
   refine ret_node (v:=.int .i64 q5) HR9.out Tryz.results83 rfl rfl rfl ?_
   exact cleaf_res 3 false 0 sl q5 HB9.out HQ5.out.2 HQ5.out.1 (by decide) VV.out
  have h3i:(3:Int)<(m:Int):=by omega
  have h3b:((m:Int) == 3)=false:=by rw [beq_eq_false_iff_ne];omega
  by_cases h256:256<n
  ·have h256i:(256:Int)<(n:Int):=by omega
   have VAC:=Hh (fun y t (h:CIs (d+1) s.data.toList p y t)=>show False from by
    obtain ⟨h1,h2⟩:=HC.out y t h
    have h7:=H7.out y t h
    rcases cmaj_cases h.1 h.2.1 with ⟨c1,c2⟩ | ⟨c1,c2,c3⟩ | ⟨c1,c2,c3⟩ | ⟨c1,c2⟩ | ⟨c1,c2,c3,-⟩ | ⟨c1,c2,c3,-⟩ <;> omega)
   have f1:=free_six HR1.out
   have c1:=six_of HR1.out
   go_wp2
   refine ret_node (v:=.int .i64 (-1)) HR1.out Tryz.results83 rfl rfl rfl ?_
   exact cleaf_res 0 false 0 ⟨#[]⟩ (-1) HB1.out (.inl rfl) (by decide) (by decide) (fun y t hV=>absurd hV (VAC.out y t))
  have h256i:¬ (256:Int)<(n:Int):=by omega
  have hwn:IntKind.i64.wrap (n:Int)=(n:Int):=IntWalk.i64_in _ (by omega)
  have hm45:m=4∨m=5:=by omega
  have HLI:=Hh (LIs.start (d:=d) HAT.out hm45)
  clear HC H7 HAT HG hc' m244 m245 m246 hn64
  obtain ⟨z2,hz2⟩:∃o,o=Obj.cells #[.int .i64 (m:Int),.bool false,.int .i64 0,.string ⟨#[]⟩,.slice none 0 0,.slice none 0 0] 28 (0,0):=⟨_,rfl⟩
  have hrr:=(Below.heap_alloc w1 z2 _ (lt_of_block HR1.out)).trans HR1.out
  have hn1:=Hn w1 z2
  have bb:=HB1.out.alloc (o:=z2) HB1.out.size
  obtain ⟨nb,hnb⟩:∃nb,nb=w1.heap.size:=⟨_,rfl⟩
  rw [←hnb] at hn1
  have hwlt:w.heap.size<nb:=by have:=lt_of_block HR1.out;omega
  obtain ⟨W2,hW2⟩:∃W,W=w1.alloc z2:=⟨_,rfl⟩
  have hst0:NSt 28 9 (d+1) w W2 0 nb W2.heap.size (m:Int) (.slice none 0 0) (.slice none 0 0) [] []:=by
   rw [hW2]
   exact NSt.begin hrr (by rw [hn1,hz2]) hw0 hwlt (grown_of_below bb (Lr _) _)
  rw [←hW2] at bb
  obtain ⟨C,hC⟩:∃C,C=W2.heap.size:=⟨_,rfl⟩
  rw [←hC] at hst0
  have HST:=Hh hst0
  have HBB:=Hh bb
  rw [hz2] at hW2
  clear hst0 bb hrr hn1 hC hz2
  go_upto_region 20 with fail
  rw [←hW2]
  rw [←hnb]
  clear hW2 hnb z2 hwlt
  obtain ⟨ip,hip,hz0,hz1,hz2⟩:=infon
  obtain ⟨iq,hiq,hy0,hy1,hy2⟩:=infos
  have HI2:=Hh hip
  have HIQ:=Hh hiq
  clear hip hiq
  have hug:=Tryz.underlying26
  have hus:=Tryz.underlying25
  go_upto_region 21 with fail
  go_loopw [10,115] (fun vq vj wr=>∃ (pq:Nat) (vn vi:Value) (ns:List ByteArray) (A:List NC),vq=.int .i64 (pq:Int)∧vj=.int .i64 (A.length:Int)∧CSt d n (m:Int) s p nb C w wr vn vi ns A pq∧LIs d (m:Int) n s.data.toList p ns (nodesOf A) pq) (fun _ vj _=>n - (intOf vj).toNat)
  case atStart=>exact ⟨q1,_,_,[],[],rfl,rfl,⟨HST.out,HBB.out,(fun y hy=>by simp at hy),Nat.zero_le _,by omega,by omega,by simp [cnSum,costs,nodesOf];omega⟩,HLI.out⟩
  case round=>
   clear HST HBB HLI HR1 HB1 HBE
   obtain ⟨pq,vn,vi,ns,A,rfl,rfl,⟨hst,hbel,hfi,hAn,hpp,hpqs,hco⟩,hsem⟩:=hrel
   have HCO:=Hh hco
   clear hco
   obtain ⟨ai,ci,hvi⟩:=hst.viForm
   subst hvi
   have HS:=Hh hst
   have HB:=Hh hbel
   have HFI:=Hh hfi
   have HSEM:=Hh hsem
   have hpqi:(pq:Int)≤(s.size:Int):=by omega
   have hpqz:(0:Int)≤(pq:Int):=by omega
   have hnl:(nodesOf A).length=A.length:=by rw [nodesOf,List.length_map]
   have HNLX:=Hh hnl
   clear hst hbel hfi hsem hnl
   by_cases hjn:A.length<n
   ·have hjni:(A.length:Int)<(n:Int):=by omega
    by_cases hm5:m=5
    ·have hm5b:((m:Int) == 5)=true:=by rw [hm5];rfl
     have HM5:Hid ((m:Int)=5):=Hh (by omega)
     clear hm5
     have TT:=Hh (rtext7_any s pq wr (by omega) hs)
     go_upto_region 24 with ((with_reducible refine (TT.out).mono ?_);rintro e2 w3 ⟨sl,q3,rfl,hb3,hsl,hq3,hsl0,hv3⟩)
     have HS3:=Hh (HS.out.below hb3)
     have HB3:=Hh (HB.out.trans (hb3.mono HB.out.size))
     have HT3:=Hh (HSEM.out.text HM5.out (by rw [HNLX.out];exact hjn) hv3)
     clear hb3 hv3 TT hsl0
     by_cases hq30:q3<0
     ·have VAC:=Hh (HT3.out.1 hq30)
      have f1:=free_six HS3.out.res
      have c1:=six_of HS3.out.res
      go_wp2
      refine ret_node (v:=.int .i64 (-1)) HS3.out.res Tryz.results83 rfl rfl rfl ?_
      exact cleaf_res 0 false 0 ⟨#[]⟩ (-1) HB3.out (.inl rfl) (by decide) (by decide) (fun y t hV=>absurd hV (VAC.out y t))
     obtain ⟨p2,hp2⟩:∃p2:Nat,(p2:Int)=q3:=⟨q3.toNat,by omega⟩
     subst hp2
     have SEM:=Hh HT3.out.2
     rw [Int.toNat_natCast] at SEM
     have HC2:Hid (cnSum (ns++[sl])+costs (d+1) (nodesOf A)+40 * (p+1)≤40 * p2):=Hh (by rw [cnSum_push];have:=HCO.out;omega)
     have HP2:Hid (pq≤p2∧p2≤s.size∧p<p2):=Hh ⟨by omega,by omega,by omega⟩
     clear hq3
     have c4:=(six_of HS3.out.nod).2.2.2.2.1
     have b4:=(Br w3.heap.size w3).alloc (o:=.cells #[.string sl] 9) (Lr _)
     have hst4:=HS3.out.below b4
     have hB4:=HB3.out.trans (b4.mono HB3.out.size)
     have hn4:=Hn w3 (.cells #[.string sl] 9)
     have HN4:Hid (∀q u,([.string sl]:List Value)[q]?=some u→(w3.alloc (.cells #[.string sl] 9)).cell? ((⟨w3.heap.size,0,none⟩:Addr).add q)=some u):=Hh fun q u hq=>by
      have:=cells_lit _ hn4 rfl q u hq
      rw [Addr.add_lit,Nat.zero_add];exact this
     have hO4:=Hh hst4.names.1
     have hbs4:=hst4.lo.2.2.2
     have HST4:=Hh hst4
     have HB4:=Hh hB4
     have hsz4:sl.size≤maxLen - 2:=by unfold maxLen;omega
     have hnl4:ns.length≤5000000:=by
      have h1:=HCO.out
      have h2:8 * ns.length≤cnSum ns:=cnSum_len ns
      omega
     clear hst4 hn4 b4 hB4
     go_upto_region 27 with ((refine wpList_append_lies _ rfl (.tmp 129) (.tmp 131) 25 rfl C 9 iq (.string ⟨#[]⟩) 1 16 hus HIQ.out hy0 hy1 hy2 rfl (by decide) vn ns.length _ rfl hO4.out ⟨w3.heap.size,0,none⟩ 1 1 [.string sl] rfl rfl HN4.out (by intro u hu;simp at hu;subst hu;rfl) (by decide) (by unfold maxLen;omega) (by omega) hbs4 _ rfl ?_);intro gn cn Wn hown hgrow hat hlt;(have hk8:=(HST4.out.apart (.inl rfl) hgrow nb HST4.out.lo.2.2.1).trans HST4.out.nod);(have hf8:=free_six hk8);(have hd8:=six_of hk8);(have HOW:=Hh (Ai hown (Ai hgrow hat)));clear hown hgrow hat hk8)
     have hsty:=HST4.out.name HOW.out.1 HOW.out.2.1 (own_at HOW.out.2.2) hsz4
     have hBy:Below w.heap.size w (Wn.setCell ⟨nb,4,none⟩ (.slice (some ⟨gn,0,none⟩) (ns.length+1) cn)):=by
      have h1:=HB4.out.grown HOW.out.2.1 HB4.out.size (fun b hb=>by have:=(HST4.out.names.1.lt b hb).1;have:=HST4.out.lo;omega)
      exact h1.grown (grown_set Wn nb 4 _) (by have:=h1.size;omega) (fun b hb=>by cases hb;have:=HST4.out.lo;omega)
     generalize Wn.setCell ⟨nb,4,none⟩ (.slice (some ⟨gn,0,none⟩) (ns.length+1) cn)=wz at hsty hBy ⊢
     have HS2:=Hh hsty
     have HB2:=Hh hBy
     clear hsty hBy HST4 HB4 HOW hO4 HN4 HS3 HB3 HS HB c4 hf8 hd8 hsl HT3 HSEM hsz4 hnl4
     generalize ns++[sl]=ns2 at HS2 SEM HC2
     generalize Value.slice (some ⟨gn,0,none⟩) (ns.length+1) cn=vn2 at HS2 ⊢
     have hp2i:(p2:Int)≤(s.size:Int):=by have:=HP2.out;omega
     have hp2z:(0:Int)≤(p2:Int):=by omega
     have hds:(d:Int)+1 - 1=(d:Int):=by omega
     have hdw:IntKind.i64.wrap (d:Int)=(d:Int):=IntWalk.i64_in _ (by omega)
     have NC:=Hh (RVH.out s p2 wz (by have:=HS2.out.lo;omega) (by have:=HP2.out;omega) hs)
     go_upto_region 28 with ((with_reducible refine (NC.out).mono ?_);rintro e3 w5 ⟨cs,x,q5,rfl,hnode,hb5,hq5,hf5,hv5⟩;go_loud ((obtain ⟨a1,l1,c1',a2,l2,c2',hcs⟩:=hnode.slices);subst hcs))
     have bS:=(Br w5.heap.size w5).alloc (o:=.cells #[.int .i64 x.kind,.bool x.bool,.int .i64 x.num,.string x.text,.slice a1 l1 c1',.slice a2 l2 c2'] 28) (Lr _)
     have hst5:=(HS2.out.below hb5).below bS
     have hnx:=Hn w5 (.cells #[.int .i64 x.kind,.bool x.bool,.int .i64 x.num,.string x.text,.slice a1 l1 c1',.slice a2 l2 c2'] 28)
     have hfr:=fun (w7:World) (hb:Below w5.heap.size w5 w7)=>HS2.out.fresh hnode hb
     have hone:=hnode.one
     have hB6:=(HB2.out.trans (hb5.mono HB2.out.size)).trans (bS.mono (by have:=HB2.out.size;have:=hb5.size;omega))
     obtain ⟨W6,hW6⟩:∃W,W=w5.alloc (.cells #[.int .i64 x.kind,.bool x.bool,.int .i64 x.num,.string x.text,.slice a1 l1 c1',.slice a2 l2 c2'] 28):=⟨_,rfl⟩
     obtain ⟨g6,hg6⟩:∃g,g=w5.heap.size:=⟨_,rfl⟩
     rw [←hW6] at bS hst5 hnx hB6
     rw [←hg6] at hnx
     try rw [←hW6]
     try rw [←hg6]
     have HST6:=Hh hst5
     have HB6:=Hh hB6
     have HFR:=Hh hfr
     have HBS:=Hh bS
     have HONE:=Hh hone
     have HF5:=Hh hf5
     have HV5:=Hh (SEM.out.item hv5)
     clear hW6 hg6 hst5 hB6 hfr bS hone hf5 hv5 hnode hb5 NC
     by_cases hq50:q5<0
     ·have VAC:=Hh (HV5.out.1 hq50)
      have f1:=free_six HST6.out.res
      have c1:=six_of HST6.out.res
      go_wp2
      refine ret_node (v:=.int .i64 (-1)) HST6.out.res Tryz.results83 rfl rfl rfl ?_
      exact cleaf_res 0 false 0 ⟨#[]⟩ (-1) HB6.out (.inl rfl) (by decide) (by decide) (fun y t hV=>absurd hV (VAC.out y t))
     ·obtain ⟨p3,hp3⟩:∃p3:Nat,(p3:Int)=q5:=⟨q5.toNat,by omega⟩
      subst hp3
      have hp3i:(p3:Int)≤(s.size:Int):=by omega
      have hp3z:(0:Int)≤(p3:Int):=by omega
      have HCX:Hid (costN (d+1) x+8+40 * p2≤40 * p3):=Hh (by omega)
      have SEM3:=Hh HV5.out.2
      rw [Int.toNat_natCast] at SEM3
      clear hq5
      have c5:=six_of HST6.out.nod
      have cx:=six_of hnx
      have b7:=(Br W6.heap.size W6).alloc (o:=.cells #[.int .i64 x.kind,.bool x.bool,.int .i64 x.num,.string x.text,.slice a1 l1 c1',.slice a2 l2 c2'] 28) (Lr _)
      have hst7:=HST6.out.below b7
      have hfr7:=HFR.out _ (HBS.out.trans (b7.mono HBS.out.size))
      have hB7:=HB6.out.trans (b7.mono HB6.out.size)
      have hn7:=Hn W6 (.cells #[.int .i64 x.kind,.bool x.bool,.int .i64 x.num,.string x.text,.slice a1 l1 c1',.slice a2 l2 c2'] 28)
      have HN7:Hid (∀q u,([.int .i64 x.kind,.bool x.bool,.int .i64 x.num,.string x.text,.slice a1 l1 c1',.slice a2 l2 c2']:List Value)[q]?=some u→(W6.alloc (.cells #[.int .i64 x.kind,.bool x.bool,.int .i64 x.num,.string x.text,.slice a1 l1 c1',.slice a2 l2 c2'] 28)).cell? ((⟨W6.heap.size,0,none⟩:Addr).add q)=some u):=Hh fun q u hq=>by
       have:=cells_lit _ hn7 rfl q u hq
       rw [Addr.add_lit,Nat.zero_add];exact this
      have hO7:=Hh hst7.items.1
      have hbs7:=hst7.lo.2.2.2
      have HST7:=Hh hst7
      have HFR7:=Hh hfr7
      have HB7:=Hh hB7
      clear hst7 hfr7 hn7 b7 hB7
      go_upto_region 31 with ((refine wpList_append_lies _ rfl (.tmp 147) (.tmp 149) 26 rfl C 28 ip (.agg #[.int .i64 0,.bool false,.int .i64 0,.string ⟨#[]⟩,.slice none 0 0,.slice none 0 0]) 6 88 hug HI2.out hz0 hz1 hz2 rfl (by decide) (.slice ai A.length ci) A.length _ rfl hO7.out ⟨W6.heap.size,0,none⟩ 1 1 ([.int .i64 x.kind,.bool x.bool,.int .i64 x.num,.string x.text,.slice a1 l1 c1',.slice a2 l2 c2']:List Value) rfl rfl HN7.out HONE.out (by decide) (by unfold maxLen;omega) (by omega) hbs7 _ rfl ?_);intro g8 c8 W8 hown hgrow hat hlt;(have hk8:=(HST7.out.apart (.inr rfl) hgrow nb HST7.out.lo.2.2.1).trans HST7.out.nod);(have hf8:=free_six hk8);(have hd8:=six_of hk8);(have HOW:=Hh (Ai hown (Ai hgrow hat)));clear hown hgrow hat hk8)
      have hst8:=HST7.out.item HOW.out.1 HOW.out.2.1 (own_at HOW.out.2.2) HFR7.out
      have hB8:Below w.heap.size w (W8.setCell ⟨nb,5,none⟩ (.slice (some ⟨g8,0,none⟩) (A.length+1) c8)):=by
       have h1:=HB7.out.grown HOW.out.2.1 HB7.out.size (fun b hb=>by have:=(HST7.out.items.1.lt b hb).1;have:=HST7.out.lo;omega)
       exact h1.grown (grown_set W8 nb 5 _) (by have:=h1.size;omega) (fun b hb=>by cases hb;have:=HST7.out.lo;omega)
      have hA8:(nodesOf (A++[(([.int .i64 x.kind,.bool x.bool,.int .i64 x.num,.string x.text,.slice a1 l1 c1',.slice a2 l2 c2']:List Value),x)]))=nodesOf A++[x]:=by simp [nodesOf]
      generalize W8.setCell ⟨nb,5,none⟩ (.slice (some ⟨g8,0,none⟩) (A.length+1) c8)=w8 at hst8 hB8 ⊢
      have HST8:=Hh hst8
      have HB8:=Hh hB8
      have HA8:=Hh hA8
      have HF8:Hid (∀y,y ∈ A++[(([.int .i64 x.kind,.bool x.bool,.int .i64 x.num,.string x.text,.slice a1 l1 c1',.slice a2 l2 c2']:List Value),x)]→lowV (d+1) y.2∧numsB (d+1) y.2=true):=Hh fun y hy=>by
       rcases List.mem_append.1 hy with hy | hy
       ·exact HFI.out y hy
       ·cases List.mem_singleton.1 hy;exact HF5.out
      have hjw:IntKind.i64.wrap ((A.length:Int)+1)=(A.length:Int)+1:=IntWalk.i64_in _ (by omega)
      clear hst8 hB8 hA8 hf8 hd8 HOW hO7 HN7 c5 cx hnx
      go_wp2
      go_roundw
      case rel=>exact ⟨p3,_,_,ns2,_,rfl,by rw [Lg];go_num,⟨HST8.out,HB8.out,HF8.out,by rw [Lg];show A.length+1≤n;omega,by have:=HCX.out;have:=HP2.out;omega,by omega,by rw [HA8.out,costs_push];have:=HC2.out;have:=HCX.out;omega⟩,by rw [HA8.out];exact SEM3.out⟩
      case measure=>simp [intOf];omega
    ·have hm5b:((m:Int) == 5)=false:=by rw [beq_eq_false_iff_ne];omega
     obtain ⟨p2,hp2⟩:∃p2,p2=pq:=⟨_,rfl⟩
     have SEM:=Hh (HSEM.out.more (by omega) (by rw [HNLX.out];exact hjn))
     rw [←hp2] at SEM
     go_upto_region 27 with fail
     rw [←hp2]
     have HP2:Hid (pq≤p2∧p2≤s.size∧p<p2):=Hh ⟨by omega,by omega,by omega⟩
     have HC2:=HCO
     rw [←hp2] at HC2
     have HS2:=HS
     have HB2:=HB
     clear hp2 HS HB HSEM
     generalize ns=ns2 at HS2 SEM HC2
     generalize vn=vn2 at HS2 ⊢
     generalize wr=wz at HS2 HB2 ⊢
     have hp2i:(p2:Int)≤(s.size:Int):=by have:=HP2.out;omega
     have hp2z:(0:Int)≤(p2:Int):=by omega
     have hds:(d:Int)+1 - 1=(d:Int):=by omega
     have hdw:IntKind.i64.wrap (d:Int)=(d:Int):=IntWalk.i64_in _ (by omega)
     have NC:=Hh (RVH.out s p2 wz (by have:=HS2.out.lo;omega) (by have:=HP2.out;omega) hs)
     go_upto_region 28 with ((with_reducible refine (NC.out).mono ?_);rintro e3 w5 ⟨cs,x,q5,rfl,hnode,hb5,hq5,hf5,hv5⟩;go_loud ((obtain ⟨a1,l1,c1',a2,l2,c2',hcs⟩:=hnode.slices);subst hcs))
     have bS:=(Br w5.heap.size w5).alloc (o:=.cells #[.int .i64 x.kind,.bool x.bool,.int .i64 x.num,.string x.text,.slice a1 l1 c1',.slice a2 l2 c2'] 28) (Lr _)
     have hst5:=(HS2.out.below hb5).below bS
     have hnx:=Hn w5 (.cells #[.int .i64 x.kind,.bool x.bool,.int .i64 x.num,.string x.text,.slice a1 l1 c1',.slice a2 l2 c2'] 28)
     have hfr:=fun (w7:World) (hb:Below w5.heap.size w5 w7)=>HS2.out.fresh hnode hb
     have hone:=hnode.one
     have hB6:=(HB2.out.trans (hb5.mono HB2.out.size)).trans (bS.mono (by have:=HB2.out.size;have:=hb5.size;omega))
     obtain ⟨W6,hW6⟩:∃W,W=w5.alloc (.cells #[.int .i64 x.kind,.bool x.bool,.int .i64 x.num,.string x.text,.slice a1 l1 c1',.slice a2 l2 c2'] 28):=⟨_,rfl⟩
     obtain ⟨g6,hg6⟩:∃g,g=w5.heap.size:=⟨_,rfl⟩
     rw [←hW6] at bS hst5 hnx hB6
     rw [←hg6] at hnx
     try rw [←hW6]
     try rw [←hg6]
     have HST6:=Hh hst5
     have HB6:=Hh hB6
     have HFR:=Hh hfr
     have HBS:=Hh bS
     have HONE:=Hh hone
     have HF5:=Hh hf5
     have HV5:=Hh (SEM.out.item hv5)
     clear hW6 hg6 hst5 hB6 hfr bS hone hf5 hv5 hnode hb5 NC
     by_cases hq50:q5<0
     ·have VAC:=Hh (HV5.out.1 hq50)
      have f1:=free_six HST6.out.res
      have c1:=six_of HST6.out.res
      go_wp2
      refine ret_node (v:=.int .i64 (-1)) HST6.out.res Tryz.results83 rfl rfl rfl ?_
      exact cleaf_res 0 false 0 ⟨#[]⟩ (-1) HB6.out (.inl rfl) (by decide) (by decide) (fun y t hV=>absurd hV (VAC.out y t))
     ·obtain ⟨p3,hp3⟩:∃p3:Nat,(p3:Int)=q5:=⟨q5.toNat,by omega⟩
      subst hp3
      have hp3i:(p3:Int)≤(s.size:Int):=by omega
      have hp3z:(0:Int)≤(p3:Int):=by omega
      have HCX:Hid (costN (d+1) x+8+40 * p2≤40 * p3):=Hh (by omega)
      have SEM3:=Hh HV5.out.2
      rw [Int.toNat_natCast] at SEM3
      clear hq5
      have c5:=six_of HST6.out.nod
      have cx:=six_of hnx
      have b7:=(Br W6.heap.size W6).alloc (o:=.cells #[.int .i64 x.kind,.bool x.bool,.int .i64 x.num,.string x.text,.slice a1 l1 c1',.slice a2 l2 c2'] 28) (Lr _)
      have hst7:=HST6.out.below b7
      have hfr7:=HFR.out _ (HBS.out.trans (b7.mono HBS.out.size))
      have hB7:=HB6.out.trans (b7.mono HB6.out.size)
      have hn7:=Hn W6 (.cells #[.int .i64 x.kind,.bool x.bool,.int .i64 x.num,.string x.text,.slice a1 l1 c1',.slice a2 l2 c2'] 28)
      have HN7:Hid (∀q u,([.int .i64 x.kind,.bool x.bool,.int .i64 x.num,.string x.text,.slice a1 l1 c1',.slice a2 l2 c2']:List Value)[q]?=some u→(W6.alloc (.cells #[.int .i64 x.kind,.bool x.bool,.int .i64 x.num,.string x.text,.slice a1 l1 c1',.slice a2 l2 c2'] 28)).cell? ((⟨W6.heap.size,0,none⟩:Addr).add q)=some u):=Hh fun q u hq=>by
       have:=cells_lit _ hn7 rfl q u hq
       rw [Addr.add_lit,Nat.zero_add];exact this
      have hO7:=Hh hst7.items.1
      have hbs7:=hst7.lo.2.2.2
      have HST7:=Hh hst7
      have HFR7:=Hh hfr7
      have HB7:=Hh hB7
      clear hst7 hfr7 hn7 b7 hB7
      go_upto_region 31 with ((refine wpList_append_lies _ rfl (.tmp 147) (.tmp 149) 26 rfl C 28 ip (.agg #[.int .i64 0,.bool false,.int .i64 0,.string ⟨#[]⟩,.slice none 0 0,.slice none 0 0]) 6 88 hug HI2.out hz0 hz1 hz2 rfl (by decide) (.slice ai A.length ci) A.length _ rfl hO7.out ⟨W6.heap.size,0,none⟩ 1 1 ([.int .i64 x.kind,.bool x.bool,.int .i64 x.num,.string x.text,.slice a1 l1 c1',.slice a2 l2 c2']:List Value) rfl rfl HN7.out HONE.out (by decide) (by unfold maxLen;omega) (by omega) hbs7 _ rfl ?_);intro g8 c8 W8 hown hgrow hat hlt;(have hk8:=(HST7.out.apart (.inr rfl) hgrow nb HST7.out.lo.2.2.1).trans HST7.out.nod);(have hf8:=free_six hk8);(have hd8:=six_of hk8);(have HOW:=Hh (Ai hown (Ai hgrow hat)));clear hown hgrow hat hk8)
      have hst8:=HST7.out.item HOW.out.1 HOW.out.2.1 (own_at HOW.out.2.2) HFR7.out
      have hB8:Below w.heap.size w (W8.setCell ⟨nb,5,none⟩ (.slice (some ⟨g8,0,none⟩) (A.length+1) c8)):=by
       have h1:=HB7.out.grown HOW.out.2.1 HB7.out.size (fun b hb=>by have:=(HST7.out.items.1.lt b hb).1;have:=HST7.out.lo;omega)
       exact h1.grown (grown_set W8 nb 5 _) (by have:=h1.size;omega) (fun b hb=>by cases hb;have:=HST7.out.lo;omega)
      have hA8:(nodesOf (A++[(([.int .i64 x.kind,.bool x.bool,.int .i64 x.num,.string x.text,.slice a1 l1 c1',.slice a2 l2 c2']:List Value),x)]))=nodesOf A++[x]:=by simp [nodesOf]
      generalize W8.setCell ⟨nb,5,none⟩ (.slice (some ⟨g8,0,none⟩) (A.length+1) c8)=w8 at hst8 hB8 ⊢
      have HST8:=Hh hst8
      have HB8:=Hh hB8
      have HA8:=Hh hA8
      have HF8:Hid (∀y,y ∈ A++[(([.int .i64 x.kind,.bool x.bool,.int .i64 x.num,.string x.text,.slice a1 l1 c1',.slice a2 l2 c2']:List Value),x)]→lowV (d+1) y.2∧numsB (d+1) y.2=true):=Hh fun y hy=>by
       rcases List.mem_append.1 hy with hy | hy
       ·exact HFI.out y hy
       ·cases List.mem_singleton.1 hy;exact HF5.out
      have hjw:IntKind.i64.wrap ((A.length:Int)+1)=(A.length:Int)+1:=IntWalk.i64_in _ (by omega)
      clear hst8 hB8 hA8 hf8 hd8 HOW hO7 HN7 c5 cx hnx
      go_wp2
      go_roundw
      case rel=>exact ⟨p3,_,_,ns2,_,rfl,by rw [Lg];go_num,⟨HST8.out,HB8.out,HF8.out,by rw [Lg];show A.length+1≤n;omega,by have:=HCX.out;have:=HP2.out;omega,by omega,by rw [HA8.out,costs_push];have:=HC2.out;have:=HCX.out;omega⟩,by rw [HA8.out];exact SEM3.out⟩
      case measure=>simp [intOf];omega
   ·have hjni:¬ (A.length:Int)<(n:Int):=by omega
    have hje:A.length=n:=by omega
    have DN:=Hh (HSEM.out.done (by rw [HNLX.out];exact hje))
    obtain ⟨an,cn,hvn⟩:=HS.out.vnForm
    subst hvn
    have f0:=free_six HS.out.nod
    have c0:=six_of HS.out.nod
    have f1:=free_six HS.out.res
    have c1:=six_of HS.out.res
    have hne:¬w.heap.size=nb:=by have:=HS.out.lo;omega
    have hne2:¬nb=w.heap.size:=fun e=>hne e.symm
    clear HSEM hje
    go_wp2
    refine ret_node (v:=.int .i64 (pq:Int)) HS.out.res Tryz.results83 rfl rfl rfl ?_
    exact clist_done HS.out HB.out (.inr (by have:=HCO.out;omega)) HFI.out (by rw [HNLX.out];omega) (fun y t h=>by obtain ⟨h1,h2⟩:=DN.out y t h;exact ⟨h1,by omega,by rw [h2,Int.toNat_natCast]⟩)
 ·have hpj:¬ (p:Int)<(s.size:Int):=by omega
  have hpj2:(s.size:Int)≤(p:Int):=by omega
  have VAC:=Hh (fun y t (h:CIs (d+1) s.data.toList p y t)=>show False from by
   have h3:=h.2.2
   rw [List.drop_eq_nil_of_le (by have:=HSZ.out;omega),writeC_succ] at h3
   unfold headL at h3
   cases h3)
  have f1:=free_six K0.out
  have c1:=six_of K0.out
  go_wp2
  refine ret_node (v:=.int .i64 (-1)) K0.out Tryz.results83 rfl rfl rfl ?_
  exact cleaf_res 0 false 0 ⟨#[]⟩ (-1) B0.out (.inl rfl) (by decide) (by decide) (fun y t hV=>absurd hV (VAC.out y t))
theorem cvalue_any:∀d,d≤20→RcAt d
 | 0,_=>cvalue_zero
 | d+1,h=>cvalue_step d (by omega) (cvalue_any d (by omega))
end Go.Proofs.YtcklddldejejcaaGreatDoor