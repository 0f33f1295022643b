/- Encode of the third serialisation, the program's own. -/
import Derived.Test.YtcklddldejejcaaGreatDoorMyp
set_option linter.unusedVariables false
set_option linter.unusedSimpArgs false
set_option maxHeartbeats 6400000
set_option maxRecDepth 100000
namespace Go.Proofs.YtcklddldejejcaaGreatDoor
open Go Go.ChangeShapes Go.WideShapes Go.ChangeAt Go.RowKit Go.Shelf
attribute [local go_sem] Oper.semAt_some
theorem wpListIn_append_str {F:Fence} {n':Nat} {P:Program} {ops:Array Oper} {rest:List Oper} {o:Oper} {a:Act} {Q:Exit→Act→World→Prop} (w:World) (hgd:o.guard=none) (sl x:Operand) (t u:TypeId)
 (ho:o.op=.call { callee:=.builtin .append,args:=#[sl,x],argTypes:=#[t,u] })
 (base:Nat) (e:TypeId) (i:TypeInfo) (ht:P.underlying t=some (.slice e)) (hu:P.underlying u=some .string) (hi:P.info? e=some i) (hz:i.zero=some (.int .u8 0))
 (hsize:i.size=1) (hby:i.bytes=1)
 (v:Value) (n:Nat) (xs:List Value) (hs:a.eval sl=v) (hown:w.ownsRow base e 1 v n xs) (s:ByteArray) (hx:a.eval x=.string s)
 (h63:n+s.size≤maxLen) (hbytes:n+s.size≤140737488355328) (hbase:base≤w.heap.size)
 (h:∀v' w',w'.ownsRow base e 1 v' (n+s.size) (xs++Lib.strCells s)→w.grownBy w' v.ownBlock→wpListIn F n' P ops Q rest (a.put o.dst v') w'):wpListIn F n' P ops Q (o::rest) a w:=by
 refine wpListIn_plain hgd fun K hK=>?_
 obtain ⟨v',w',hr,h2,h3,h4⟩:=Lib.run_append_own_string (P:=P) w base t u o.type e i ht hu hi hz hsize hby v n xs hown s h63 hbytes hbase
 unfold Oper.wpIn
 refine ⟨?_,?_⟩
 ·simp [Oper.about,ho,resolve,Target.leads,Sem.run_pure]
 ·rw [Oper.semAt_plain F _ _ (by rw [ho];intro c hc';cases hc')]
  simp [execOp,ho,resolve,invoke,builtin,hs,hx,hr,Result.andThen]
  exact hK _ _ (h v' w' h2 h3)
theorem one_free {w:World} {g:Nat} {v:Value} {T:TypeId} (h:w.heap[g]?=some (.cells #[v] T (0,0))):w.cell? ⟨g,0,none⟩=some v∧w.frozen? ⟨g,0,none⟩=false:=⟨cell_blk h rfl,free_blk h⟩
theorem one_set {w:World} {g:Nat} {v:Value} {T:TypeId} (h:w.heap[g]?=some (.cells #[v] T (0,0))) (u:Value):(w.setCell ⟨g,0,none⟩ u).heap[g]?=some (.cells #[u] T (0,0)):=by
 have:=heap_set h (j:=0) u
 simpa using this
structure Ptab (w:World):Prop where
 u:Utab w
 s:Scl w
theorem Ptab.below {w w':World} (h:Ptab w) (hb:Below w.heap.size w w'):Ptab w':=⟨h.u.below hb,h.s.to hb⟩
theorem tbsU:(73:TypeId) ≠ 5:=by decide
theorem mpenc_any {D:Nat} {S:Nat→Prop} (cs:List Value) (x:ND) (w:World) (h:NodeIn D S w cs x) (hS:∀b,S b→b<w.heap.size) (hl:lowV D x) (hw:validN 8 x=true→numsB 8 x=true) (hT:Ptab w):Calls Tryz.prog 174 #[.agg cs.toArray] w (MEncPost x w):=by
 obtain ⟨a1,l1,c1,a2,l2,c2,rfl⟩:=h.slices
 have bb:=(((Br w.heap.size w).alloc (o:=.cells #[.int .i64 x.kind,.bool x.bool,.int .i64 x.num,.string x.text,.slice a1 l1 c1,.slice a2 l2 c2] 28) (Lr _)).alloc (o:=.cells #[.string ⟨#[]⟩] 9) (by simp)).alloc (o:=.cells #[.int .i64 0] 33) (by simp;omega)
 have k2:=Hn ((w.alloc (.cells #[.int .i64 x.kind,.bool x.bool,.int .i64 x.num,.string x.text,.slice a1 l1 c1,.slice a2 l2 c2] 28)).alloc (.cells #[.string ⟨#[]⟩] 9)) (.cells #[.int .i64 0] 33)
 have k1:(((w.alloc (.cells #[.int .i64 x.kind,.bool x.bool,.int .i64 x.num,.string x.text,.slice a1 l1 c1,.slice a2 l2 c2] 28)).alloc (.cells #[.string ⟨#[]⟩] 9)).alloc (.cells #[.int .i64 0] 33)).heap[w.heap.size+1]?=some (.cells #[.string ⟨#[]⟩] 9 (0,0)):=(((Br _ ((w.alloc (.cells #[.int .i64 x.kind,.bool x.bool,.int .i64 x.num,.string x.text,.slice a1 l1 c1,.slice a2 l2 c2] 28)).alloc (.cells #[.string ⟨#[]⟩] 9))).alloc (Lr _) _).block _ (by simp)).trans (by have:=Hn (w.alloc (.cells #[.int .i64 x.kind,.bool x.bool,.int .i64 x.num,.string x.text,.slice a1 l1 c1,.slice a2 l2 c2] 28)) (.cells #[.string ⟨#[]⟩] 9);rw [World.size_alloc] at this;exact this)
 have k0:(((w.alloc (.cells #[.int .i64 x.kind,.bool x.bool,.int .i64 x.num,.string x.text,.slice a1 l1 c1,.slice a2 l2 c2] 28)).alloc (.cells #[.string ⟨#[]⟩] 9)).alloc (.cells #[.int .i64 0] 33)).heap[w.heap.size]?=some (.cells #[.int .i64 x.kind,.bool x.bool,.int .i64 x.num,.string x.text,.slice a1 l1 c1,.slice a2 l2 c2] 28 (0,0)):=((((Br _ (w.alloc (.cells #[.int .i64 x.kind,.bool x.bool,.int .i64 x.num,.string x.text,.slice a1 l1 c1,.slice a2 l2 c2] 28))).alloc (Lr _) (.cells #[.string ⟨#[]⟩] 9)).alloc (by simp) (.cells #[.int .i64 0] 33)).block _ (by simp)).trans (Hn w (.cells #[.int .i64 x.kind,.bool x.bool,.int .i64 x.num,.string x.text,.slice a1 l1 c1,.slice a2 l2 c2] 28))
 rw [World.size_alloc,World.size_alloc] at k2
 obtain ⟨w3,hw3⟩:∃W,W=((w.alloc (.cells #[.int .i64 x.kind,.bool x.bool,.int .i64 x.num,.string x.text,.slice a1 l1 c1,.slice a2 l2 c2] 28)).alloc (.cells #[.string ⟨#[]⟩] 9)).alloc (.cells #[.int .i64 0] 33):=⟨_,rfl⟩
 obtain ⟨p0,hp0⟩:∃p,p=w.heap.size:=⟨_,rfl⟩
 obtain ⟨p1,hp1⟩:∃p,p=w.heap.size+1:=⟨_,rfl⟩
 obtain ⟨p2,hp2⟩:∃p,p=w.heap.size+1+1:=⟨_,rfl⟩
 rw [←hw3] at bb k0 k1 k2
 rw [←hp0] at k0
 rw [←hp1] at k1
 rw [←hp2] at k2
 have hp12:p1 ≠ p2:=by omega
 have hpp:w.heap.size≤p0∧w.heap.size≤p1∧w.heap.size≤p2:=by omega
 have q0:=six_of k0
 have h3:=h.same fun b hb=>bb.block b (hS b hb)
 have hS3:∀b,S b→b<w3.heap.size:=fun b hb=>Ll (hS b hb) bb.size
 have hT3:=hT.below bb
 have V:=Hh (isvalidV_any _ x w3 h3 hS3 hl hT3.u)
 have B3:=Hh bb
 have K0:=Hh k0
 have K1:=Hh k1
 have K2:=Hh k2
 have HN:=Hh (Ai h3 (Ai hS hS3))
 have HT:=Hh hT3
 have HW:=Hh hw
 have HPP:=Hh (Ai hpp hp12)
 clear h hS hl hw hT bb k0 k1 k2 h3 hS3 hT3 hpp hp12
 cases hv:validN 8 x with
 | false=>
  rw [hv] at V
  obtain ⟨e1,e2⟩:=mpse_bad hv
  have HE:=Hh (Ai e1 e2)
  clear hv e1 e2
  go_enter Tryz.func174,Tryz.ntmps174
  go_upto_region 1 with fail
  rw [←hw3,←hp2,←hp1,←hp0]
  clear hw3 hp2 hp1 hp0
  go_upto_region 2 with ((with_reducible refine (V.out).mono ?_);rintro e w4 ⟨rfl,hb4⟩)
  have k1:=(hb4.block _ (lt_of_block K1.out)).trans K1.out
  have k2:=(hb4.block _ (lt_of_block K2.out)).trans K2.out
  have s1:=one_set k1 (.string ⟨#[]⟩)
  have t2:=(heap_setCell_other w4 ⟨p1,0,none⟩ p2 (.string ⟨#[]⟩) (Ne.symm HPP.out.2)).trans k2
  have s2:=one_set t2 (.int .i64 1)
  have t1:=(heap_setCell_other (w4.setCell ⟨p1,0,none⟩ (.string ⟨#[]⟩)) ⟨p2,0,none⟩ p1 (.int .i64 1) HPP.out.2).trans s1
  have f1:=one_free k1
  have f2:=one_free t2
  have hb9:=((B3.out.trans (hb4.mono B3.out.size)).setCell (p:=⟨p1,0,none⟩) HPP.out.1.2.1 (.string ⟨#[]⟩)).setCell (p:=⟨p2,0,none⟩) HPP.out.1.2.2 (.int .i64 1)
  have r1:=cell_blk t1 (j:=0) rfl
  have r2:=cell_blk s2 (j:=0) rfl
  have R:=Hh (Ai (Ai r1 r2) hb9)
  clear k1 k2 s1 t2 s2 t1 r1 r2 hb9 hb4 q0
  go_wp2
  refine bodyPost_ret (v:=.tuple #[.string ⟨#[]⟩,.int .i64 1]) ?_ ?_ ?_
  rotate_left
  ·rfl
  ·exact ⟨by rw [HE.out.1,HE.out.2],R.out.2⟩
  ·have r1:=R.out.1.1
   have r2:=R.out.1.2
   simp [results,Tryz.results174,go_sem,r1,r2]
 | true=>
  rw [hv] at V
  have hnu:=HW.out hv
  have HV:=Hh (Ai hv hnu)
  clear hv hnu
  obtain ⟨ib,hib,hb0,hb1,hb2⟩:=info_parts Tryz.info5
  have hub:=Tryz.underlying73
  have hust:=Tryz.underlying9
  have hu8:=Tryz.underlying5
  have HIB:=Hh hib
  clear hib
  refine (callsIn_wide (n:=10)).1 ?_
  refine callsIn_of_wp_marks Tryz.func174 rfl trivial ?_ rfl
  simp only [Tryz.ntmps174,List.size_toArray,List.length_cons,List.length_nil,Nat.reduceAdd,Nat.reduceSub,Array.replicate_succ,Array.replicate_zero,List.push_toArray,List.append_toArray,List.nil_append,List.cons_append]
  refine wpIn_mono (Q:=NoPan _) ?_ NoPan.out
  refine wpIn_wide.2 ?_
  go_upto_region 1 with fail
  rw [←hw3,←hp2,←hp1,←hp0]
  clear hw3 hp2 hp1 hp0
  go_upto_region 3 with ((with_reducible refine (V.out).mono ?_);rintro e w4 ⟨rfl,hb4⟩)
  have hB4:=B3.out.trans (hb4.mono B3.out.size)
  have hz4:w3.heap.size≤w4.heap.size:=hb4.size
  have st5:=WSc.fresh (TW:=73) (TB:=5) w4
  have b45:=(Br w4.heap.size w4).alloc (o:=.cells #[.slice none 0 0] 73) (Lr _)
  have hz5:(w4.alloc (.cells #[.slice none 0 0] 73)).heap.size=w4.heap.size+1:=by simp
  have b35:=hb4.trans (b45.mono hb4.size)
  have k05:=(b35.block _ (lt_of_block K0.out)).trans K0.out
  have q5:=six_of k05
  go_upto_region 4 with fail
  generalize w4.alloc _=w5 at st5 b45 hz5 b35 k05 q5 ⊢
  obtain ⟨g,hg⟩:∃g,g=w4.heap.size:=⟨_,rfl⟩
  rw [←hg] at st5 b45 hz5 ⊢
  have hg3:w3.heap.size≤g:=by omega
  clear hg hB4 hz4 hb4
  go_wp2_with (go_at_call 202;(with_reducible refine (pieces_any _).mono ?_);rintro e w6 ⟨rfl,rfl⟩)
  have b56:=(Br w5.heap.size w5).alloc (o:=.cells #[.int .i64 x.kind,.bool x.bool,.int .i64 x.num,.string x.text,.slice a1 l1 c1,.slice a2 l2 c2] 28) (Lr _)
  have kb:=Hn w5 (.cells #[.int .i64 x.kind,.bool x.bool,.int .i64 x.num,.string x.text,.slice a1 l1 c1,.slice a2 l2 c2] 28)
  have st6:=st5.below b56
  have b36:=b35.trans (b56.mono b35.size)
  have hg6:g<(w5.alloc (.cells #[.int .i64 x.kind,.bool x.bool,.int .i64 x.num,.string x.text,.slice a1 l1 c1,.slice a2 l2 c2] 28)).heap.size:=Ll st5.lt b56.size
  have hB6:g+1≤(w5.alloc (.cells #[.int .i64 x.kind,.bool x.bool,.int .i64 x.num,.string x.text,.slice a1 l1 c1,.slice a2 l2 c2] 28)).heap.size:=hg6
  have k16:=(b36.block _ (lt_of_block K1.out)).trans K1.out
  have k26:=(b36.block _ (lt_of_block K2.out)).trans K2.out
  rw [hz5] at kb
  generalize w5.alloc (.cells #[.int .i64 x.kind,.bool x.bool,.int .i64 x.num,.string x.text,.slice a1 l1 c1,.slice a2 l2 c2] 28)=w6 at kb st6 b36 hg6 hB6 k16 k26 ⊢
  have HK:=Hh (Ai k16 k26)
  have HB6:=Hh b36
  have hn6:NodeIn D S w6 [.int .i64 x.kind,.bool x.bool,.int .i64 x.num,.string x.text,.slice a1 l1 c1,.slice a2 l2 c2] x:=HN.out.1.same fun b hb=>b36.block b (HN.out.2.2 b hb)
  have hs6:SclB w3.heap.size w6:=HT.out.s.below b36
  clear b56 b45 b35 st5 hz5 k05 q5 k16 k26 b36
  refine wpIn_wide (n:=10).1 ?_
  have hgp:p1<g∧p2<g:=⟨Ll (lt_of_block K1.out) hg3,Ll (lt_of_block K2.out) hg3⟩
  refine wpIn_rangeFunc_ownH rfl (by decide) (gf:=229) (lb:=#[.pointer (some ⟨g+1,0,none⟩)]) rfl trivial (enters_of Tryz.func229 (by kernel_rfl) rfl)
   (pieces1_stops (d:=8) (S:=S) w6 (fun b hb=>Ll (HN.out.2.2 b hb) hg3) kb hn6 HV.out.1 HV.out.2 hg6 hs6 hg3 9) KpW.trans (kpW_b (Nat.le_of_lt hg6)) (Br _ _) (fun _=>rfl)
   (fun pre W=>WSc 73 5 (g+1) W g (catP (strP pre))∧(catP (strP pre)).length≤65536∧WFr 5 g w6 W)
   (fun c pre W=>c=.ret∧65536<(catP (strP pre)).length∧W.heap[p1]?=some (.cells #[.string ⟨#[]⟩] 9 (0,0))∧W.heap[p2]?=some (.cells #[.int .i64 3] 33 (0,0))∧Below w.heap.size w6 W)
   (fun pre W W' row hs hg hr=>by
    obtain ⟨q1,q2,q3⟩:=hs
    exact ⟨wsc_own q1 hg (fun r e=>(hr r e).2),q2,wfr_own q3 (Lr _) hg6 hg (fun r e=>(hr r e).1) q3.1.size⟩)
   (fun c pre W W' row hs hg hr=>by
    obtain ⟨hc,q1,q2,q3,q4⟩:=hs
    have hne:∀ (p:Nat) (o:Obj),W.heap[p]?=some o→o.isCells=true→W'.heap[p]?=some o:=fun p o ho hc'=>(hg.block p (lt_of_block ho) fun e=>by
     obtain ⟨-,o',ho',hc''⟩:=hr p e.symm
     rw [ho] at ho';cases ho';rw [hc'] at hc'';cases hc'').trans ho
    exact ⟨hc,q1,hne _ _ q2 rfl,hne _ _ q3 rfl,q4.grown hg (by have:=HB6.out.size;have:=B3.out.size;have:=q4.size;omega) (fun r e=>by have:=(hr r e).1;have:=HB6.out.size;have:=B3.out.size;omega)⟩)
   ⟨st6,Nat.zero_le _,WFr.refl _ _ _⟩
   (fun s a' W=>a'={ tmps:=#[.agg #[.int .i64 x.kind,.bool x.bool,.int .i64 x.num,.string x.text,.slice a1 l1 c1,.slice a2 l2 c2],.pointer (some ⟨p0,0,none⟩),.pointer (some ⟨p1,0,none⟩),.pointer (some ⟨p2,0,none⟩),.pointer (some ⟨g,0,none⟩),.string s.1,.agg #[.int .i64 x.kind,.bool x.bool,.int .i64 x.num,.string x.text,.slice a1 l1 c1,.slice a2 l2 c2],.bool true,.bool false,.agg #[.int .i64 x.kind,.bool x.bool,.int .i64 x.num,.string x.text,.slice a1 l1 c1,.slice a2 l2 c2],.func (.func 229) #[] #[.pointer (some ⟨g+1,0,none⟩)],.string s.1,undef,undef,undef,undef,undef,undef,undef,undef,undef,undef,undef],defers:=[] })
   (fun s a' _ W W' row hs hg hr=>hs)
   ?assign ?body ?done ?stop
  case assign=>
   rintro lp pre ⟨s,hs⟩ W K hI hK
   gi_wp2
   exact hK _ _ (KeepsFrom.refl _ _) (KpW.refl _ _ _) hI rfl
  case body=>
   rintro lp pre ⟨s,hs⟩ a' W hlp ⟨r,hr⟩ ⟨hst,hle,hfr⟩ rfl hlt
   dsimp only at hs ⊢
   have hsn:catP (strP (pre++[(⟨s,hs⟩:PcS)]))=catP (strP pre)++s.data.toList:=by rw [strP_snoc,catP_app];simp [catP]
   have hss:s.data.toList.length=s.size:=by rw [Array.length_toList];rfl
   obtain ⟨L,hL⟩:∃L,L=catP (strP pre):=⟨_,rfl⟩
   rw [←hL] at hst hle hsn
   have HSN:=Hh (Ai hsn hss)
   have HFR:=Hh hfr
   have HST:=Hh hst
   obtain ⟨v,hk,hown,-⟩:=id hst
   obtain ⟨ao,cap,rfl,-,-⟩:=wown_form hown
   have c0:=cell_blk hk (j:=0) rfl
   have hgW:g<W.heap.size:=lt_of_block hk
   have hle':(L.length:Int)≤65536:=by omega
   have hs':(s.size:Int)≤131072:=by omega
   have HKW:=Hh hk
   have HOWN:=Hh hown
   clear hL hsn hss hfr hst hk hown
   by_cases hov:65536<L.length+s.size
   ·have hov':(65536:Int)<(L.length:Int)+(s.size:Int):=by omega
    have k1:=(HFR.out.1.block p1 hgp.1).trans HK.out.1
    have k2:=(HFR.out.1.block p2 hgp.2).trans HK.out.2
    have s1:=one_set k1 (.string ⟨#[]⟩)
    have t2:=(heap_setCell_other W ⟨p1,0,none⟩ p2 (.string ⟨#[]⟩) (Ne.symm HPP.out.2)).trans k2
    have s2:=one_set t2 (.int .i64 3)
    have t1:=(heap_setCell_other (W.setCell ⟨p1,0,none⟩ (.string ⟨#[]⟩)) ⟨p2,0,none⟩ p1 (.int .i64 3) HPP.out.2).trans s1
    have f1:=one_free k1
    have f2:=one_free t2
    have hb9:=((HFR.out.1.mono (B':=w.heap.size) (by have:=B3.out.size;omega)).setCell (p:=⟨p1,0,none⟩) HPP.out.1.2.1 (.string ⟨#[]⟩)).setCell (p:=⟨p2,0,none⟩) HPP.out.1.2.2 (.int .i64 3)
    have R:=Hh (Ai (Ai t1 s2) hb9)
    clear k1 k2 s1 t2 s2 t1 hb9
    gi_wp2
    exact ⟨((KeepsOthers.setCell _ _ _).trans (KeepsOthers.setCell _ _ _)).from _,rfl,by rw [HSN.out.1,Lg,HSN.out.2];exact hov,R.out.1.1,R.out.1.2,R.out.2⟩
   ·have hov':¬ (65536:Int)<(L.length:Int)+(s.size:Int):=by omega
    have ST:=Hh (fun (w8:World) (v':Value) (ho:w8.ownsRow (g+1) 5 1 v' (L.length+s.size) (bytesV L++Lib.strCells s)) (hg:W.grownBy w8 (Value.slice ao L.length cap).ownBlock)=>wsc_step (l':=L++s.data.toList) HKW.out HOWN.out (Nat.lt_succ_self g) tbsU (by rw [Lg,HSN.out.2,bytesV_append];exact ho) hg)
    have HBW:Hid (g+1≤W.heap.size):=Hh hgW
    clear hgW
    gi_wp2_with (gi_at_builtin;refine wpListIn_append_str _ rfl _ _ 73 9 rfl (g+1) 5 ib hub hust HIB.out hb0 hb1 hb2 _ L.length _ rfl HOWN.out s rfl (by unfold maxLen;omega) (by omega) HBW.out ?_;intro v' w8 hown hgr;obtain ⟨k8,st8,fr8⟩:=ST.out w8 v' hown hgr;obtain ⟨ao8,cap8,rfl,-,-⟩:=wown_form hown;have f8:=one_free k8;have ST8:=Hh st8;have FR8:=Hh fr8;clear hown hgr k8 st8 fr8)
    exact ⟨keeps_of_wfr FR8.out (by have:=HBW.out;omega) hg6,KpW.of FR8.out,by rw [HSN.out.1];exact ST8.out,by rw [HSN.out.1,Lg,HSN.out.2];omega,HFR.out.trans FR8.out⟩
  case done=>
   rintro DD xs W hD hxs ⟨hst,hle,hfr⟩ hK
   rw [hxs] at hst hle
   rw [pcs_cat 8 x HV.out.1] at hst hle
   obtain ⟨e1,e2⟩:=mpse_good HV.out.1 (show ¬65536<(writeP 8 x).length by omega)
   have HE:=Hh (Ai e1 e2)
   obtain ⟨L,hL⟩:∃L,L=writeP 8 x:=⟨_,rfl⟩
   rw [←hL] at hst e1
   have HL:=Hh hL
   obtain ⟨v,hk,hown,-⟩:=id hst
   have hcv:=conv_owns (P:=Tryz.prog) W 73 9 5 (g+1) _ v L hown hub hu8 hust
   obtain ⟨ao,cap,rfl,-,-⟩:=wown_form hown
   have c0:=cell_blk hk (j:=0) rfl
   have k1:=(hfr.1.block p1 hgp.1).trans HK.out.1
   have k2:=(hfr.1.block p2 hgp.2).trans HK.out.2
   have s1:=one_set k1 (.string ⟨L.toArray⟩)
   have t2:=(heap_setCell_other W ⟨p1,0,none⟩ p2 (.string ⟨L.toArray⟩) (Ne.symm HPP.out.2)).trans k2
   have s2:=one_set t2 (.int .i64 0)
   have t1:=(heap_setCell_other (W.setCell ⟨p1,0,none⟩ (.string ⟨L.toArray⟩)) ⟨p2,0,none⟩ p1 (.int .i64 0) HPP.out.2).trans s1
   have f1:=one_free k1
   have f2:=one_free t2
   have hd1:DD ≠ p1:=by have:=hgp.1;omega
   have hd2:DD ≠ p2:=by have:=hgp.2;omega
   have hK1:=(heap_setCell_other W ⟨p1,0,none⟩ DD (.string ⟨L.toArray⟩) hd1).trans hK
   have hK2:=(heap_setCell_other (W.setCell ⟨p1,0,none⟩ (.string ⟨L.toArray⟩)) ⟨p2,0,none⟩ DD (.int .i64 0) hd2).trans hK1
   have hbW:Below w.heap.size w W:=(B3.out.trans (HB6.out.mono B3.out.size)).trans (hfr.1.mono (by have:=B3.out.size;omega))
   have hb9:=(hbW.setCell (p:=⟨p1,0,none⟩) HPP.out.1.2.1 (.string ⟨L.toArray⟩)).setCell (p:=⟨p2,0,none⟩) HPP.out.1.2.2 (.int .i64 0)
   have hdw:w.heap.size≤DD:=by have:=B3.out.size;have:=HB6.out.size;omega
   have R:=Hh (Ai (Ai t1 s2) (Ai hb9 (Ai hK2 hdw)))
   clear k1 k2 s1 t2 s2 t1 hb9 hK1 hK2 hbW hst hk hown hle hd1 hd2 hK hfr e1 e2 hL
   go_wp2
   show bodyPostM _ _ _ _ _ Exit.ret _ _
   have hgr:=grownBy_putObj' ((W.setCell ⟨p1,0,none⟩ (.string ⟨L.toArray⟩)).setCell ⟨p2,0,none⟩ (.int .i64 0)) DD (.deferred none)
   refine ⟨by simp,.inl ⟨_,_,rfl,run_takeDeferred R.out.2.2.1,?_⟩⟩
   have hd1:DD ≠ p1:=by have:=hgp.1;omega
   have hd2:DD ≠ p2:=by have:=hgp.2;omega
   have r1:=cell_blk ((hgr.block p1 (lt_of_block R.out.1.1) (fun e=>hd1 (Option.some.inj e).symm)).trans R.out.1.1) (j:=0) rfl
   have r2:=cell_blk ((hgr.block p2 (lt_of_block R.out.1.2) (fun e=>hd2 (Option.some.inj e).symm)).trans R.out.1.2) (j:=0) rfl
   refine ⟨.tuple #[.string ⟨L.toArray⟩,.int .i64 0],by simp [results,Tryz.results174,go_sem,r1,r2],by rw [HE.out.1,HE.out.2,←HL.out];rfl,R.out.2.1.grown hgr R.out.2.1.size (fun r e=>by cases e;exact R.out.2.2.2)⟩
  case stop=>
   rintro DD c pre W hD hpre ⟨rfl,hle,s1,s2,hbW⟩ hK
   have hgr:=grownBy_putObj' W DD (.deferred none)
   have hlen:=Ll hle (pcs_len HV.out.1 _ hpre)
   obtain ⟨e1,e2⟩:=mpse_long HV.out.1 hlen
   have hdw:w.heap.size≤DD:=by have:=B3.out.size;have:=HB6.out.size;omega
   have hb9:=(B3.out.trans (HB6.out.mono B3.out.size)).trans hbW
   have hd1:DD ≠ p1:=by have:=hgp.1;omega
   have hd2:DD ≠ p2:=by have:=hgp.2;omega
   have r1:=cell_blk ((hgr.block p1 (lt_of_block s1) (fun e=>hd1 (Option.some.inj e).symm)).trans s1) (j:=0) rfl
   have r2:=cell_blk ((hgr.block p2 (lt_of_block s2) (fun e=>hd2 (Option.some.inj e).symm)).trans s2) (j:=0) rfl
   refine wpIn_ret ?_
   show bodyPostM _ _ _ _ _ Exit.ret _ _
   refine ⟨by simp,.inl ⟨_,_,rfl,run_takeDeferred hK,?_⟩⟩
   refine ⟨.tuple #[.string ⟨#[]⟩,.int .i64 3],by simp [results,Tryz.results174,go_sem,r1,r2],by rw [e1,e2],hb9.grown hgr hb9.size (fun r e=>by cases e;exact hdw)⟩
end Go.Proofs.YtcklddldejejcaaGreatDoor