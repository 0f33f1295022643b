/- The document's copy of a node. -/
import Derived.Test.YtcklddldejejcaaGreatDoorNcop
set_option linter.unusedVariables false
set_option linter.unusedSimpArgs false
set_option maxHeartbeats 1600000
set_option maxRecDepth 100000
namespace Go.Proofs.YtcklddldejejcaaGreatDoor
open Go Go.ChangeShapes Go.WideShapes Go.ChangeAt Go.RowKit
def RSt (TN:TypeId) (d B:Nat) (w wr:World) (x:ND) (vn:Value) (j:Nat):Prop:=∃ (ai:Option Addr) (ci:Nat) (A:List NC),wr.heap[w.heap.size+1]?=some (.cells #[.int .i64 0,.bool false,.int .i64 0,.string ⟨#[]⟩,.slice none 0 0,.slice none 0 0] TN (0,0))∧wr.heap[w.heap.size]?=some (.cells #[.int .i64 x.kind,.bool x.bool,.int .i64 x.num,.string x.text,vn,.slice ai A.length ci] TN (0,0))∧NRow TN d B none wr (.slice ai A.length ci) A∧nodesOf A=x.items.take j∧Below w.heap.size w wr∧(∀y,y ∈ A→NodeIn d (PlainB wr) wr y.1 y.2)∧StrsIn (fun b=>Fr (w.heap.size+2) wr b∧b<B) wr vn x.names
theorem frB {base B:Nat} {w w':World} {row:Option Nat} {v:Value} {ns:List ByteArray} (h:StrsIn (fun b=>Fr base w b∧b<B) w v ns) (hg:w.grownBy w' row) (hr:∀r,row=some r→r<base∨B≤r):StrsIn (fun b=>Fr base w' b∧b<B) w' v ns:=
 have e:∀b,(Fr base w b∧b<B)→w'.heap[b]?=w.heap[b]?:=fun b hb=>hg.block b hb.1.2.1 (fun e=>by have h1:=hr b e.symm;have h2:=hb.1.1;have h3:=hb.2;omega)
 (h.same e).mono fun b hb=>⟨hb.1.move (e b hb) (Lr _) hg.size,hb.2⟩
def NodeRow (TN:TypeId) (d:Nat) (w:World) (x:ND) (e:Ending) (w':World):Prop:=∃ (B:Nat) (vn:Value) (ai:Option Addr) (ci:Nat) (A:List NC),e=.returned (.agg #[.int .i64 x.kind,.bool x.bool,.int .i64 x.num,.string x.text,vn,.slice ai A.length ci])∧w.heap.size+2≤B∧x.text.size≤maxLen - 2∧StrsIn (fun b=>Fr (w.heap.size+2) w' b∧b<B) w' vn x.names∧NRow TN d B none w' (.slice ai A.length ci) A∧(∀y,y ∈ A→NodeIn d (PlainB w') w' y.1 y.2)∧nodesOf A=x.items∧Below w.heap.size w w'
theorem NodeRow.new {TN:TypeId} {d:Nat} {w w':World} {x:ND} {e:Ending} (h:NodeRow TN d w x e w'):NodeNew (d+1) w x e w':=by
 obtain ⟨B,vn,ai,ci,A,rfl,hB,ht,hn,hr,hp,hA,hb⟩:=h
 have hN:=hr.fr hp
 rw [hA] at hN
 have e2:∀b,Fr B w' b→Fr w.heap.size w' b:=fun b hb=>⟨by have:=hb.1;omega,hb.2⟩
 exact ⟨[.int .i64 x.kind,.bool x.bool,.int .i64 x.num,.string x.text,vn,.slice ai A.length ci],rfl,⟨_,_,rfl,ht,hn.mono fun b hb=>⟨by have:=hb.1.1;omega,hb.1.2⟩,hN.mono e2 fun cs y q=>q.mono e2⟩,hb⟩
theorem rcopy_step {d:Nat} (HC:∀ (S:Nat→Prop) (cs:List Value) (x:ND) (w:World),NodeIn d S w cs x→(∀b,S b→b<w.heap.size)→lowN d x→Calls Tryz.prog 46 #[.agg cs.toArray] w (NodeNew d w x))
 (S:Nat→Prop) (cs:List Value) (x:ND) (w:World) (h:NodeIn (d+1) S w cs x) (hS:∀b,S b→b<w.heap.size) (hlow:lowN (d+1) x):Calls Tryz.prog 46 #[.agg cs.toArray] w (NodeRow 28 d w x):=by
 obtain ⟨ip,hip,hz0,hz1,hz2⟩:=infon
 obtain ⟨iq,hiq,hy0,hy1,hy2⟩:=infos
 have hug:=Tryz.underlying26
 have hus:=Tryz.underlying25
 have HIP:=Hh hip
 have HIQ:=Hh hiq
 obtain ⟨a1,l1,c1,a2,l2,c2,rfl⟩:=h.slices
 obtain ⟨vn,vi,e,ht,hns,his⟩:=h
 simp only [List.cons.injEq,and_true,true_and] at e
 obtain ⟨rfl,rfl⟩:=e
 obtain ⟨w1,hw1⟩:∃W,W=(w.alloc (.cells #[.int .i64 x.kind,.bool x.bool,.int .i64 x.num,.string x.text,.slice a1 l1 c1,.slice a2 l2 c2] 28)).alloc (.cells #[.int .i64 0,.bool false,.int .i64 0,.string ⟨#[]⟩,.slice none 0 0,.slice none 0 0] 28):=⟨_,rfl⟩
 have hz:(w.alloc (.cells #[.int .i64 x.kind,.bool x.bool,.int .i64 x.num,.string x.text,.slice a1 l1 c1,.slice a2 l2 c2] 28)).heap.size=w.heap.size+1:=by simp
 have b1:Below w.heap.size w w1:=by rw [hw1];exact ((Br _ _).alloc (Lr _) _).alloc (by simp) _
 have hr1:w1.heap[w.heap.size+1]?=some (.cells #[.int .i64 0,.bool false,.int .i64 0,.string ⟨#[]⟩,.slice none 0 0,.slice none 0 0] 28 (0,0)):=by rw [hw1,←hz];exact Hn _ _
 have hb1:w1.heap[w.heap.size]?=some (.cells #[.int .i64 x.kind,.bool x.bool,.int .i64 x.num,.string x.text,.slice a1 l1 c1,.slice a2 l2 c2] 28 (0,0)):=by rw [hw1];exact (Below.heap_alloc _ _ _ (by omega)).trans (Hn _ _)
 have hw1s:w1.heap.size=w.heap.size+2:=by rw [hw1];simp
 have hns1:=hns.same (w':=w1) fun b hb=>b1.block b (hS b hb)
 have hsz:=hns.sizes
 have HCC:=Hh HC
 have HL:=Hh hlow
 have HS:=Hh hS
 have HIS:=Hh his
 have HNS:=Hh hns1
 have HSZ:=Hh hsz
 have hln:=hlow.1
 have cb:=six_of hb1
 have HR:=Hh hr1
 have HB:=Hh hb1
 have HB1:=Hh b1
 have HT:=Hh ht
 clear HC hlow hS hns his hns1 hr1 hb1 hz hsz b1 ht hip hiq
 go_enter Tryz.func46,Tryz.ntmps46
 go_upto_region 1 with fail
 rw [←hw1]
 clear hw1
 go_upto_region 3 with (refine wpList_append_strs _ rfl (.const (.slice none 0 0)) (.tmp 9) 25 rfl 9 iq hus HIQ.out hy0 hy1 hy2 rfl (.slice a1 l1 c1) x.names rfl HNS.out hln ?_;intro v1 w2 hown hgrow;obtain ⟨a3,c3,rfl,-⟩:=(show SRow 9 w1.heap.size w2 v1 x.names from ⟨hown,HSZ.out⟩).strs;(have hk2:=(hgrow.block _ (lt_of_block HB.out) (by simp)).trans HB.out);(have f2:=free_six hk2);(have c2':=six_of hk2);clear hk2)
 have hrow2:SRow 9 w1.heap.size w2 (.slice a3 x.names.length c3) x.names:=⟨hown,HSZ.out⟩
 have hk2:=(hgrow.block _ (lt_of_block HB.out) (by simp)).trans HB.out
 have hr2:=(hgrow.block _ (lt_of_block HR.out) (by simp)).trans HR.out
 have B2:Below w.heap.size w w2:=HB1.out.grown hgrow HB1.out.size (fun g e=>by cases e)
 have hz2':w1.heap.size≤w2.heap.size:=hgrow.size
 have hg3:=grown_set w2 w.heap.size 4 (.slice a3 x.names.length c3)
 have hk3:=six_set4 hk2 (.slice a3 x.names.length c3)
 have hr3:=(hg3.block _ (lt_of_block hr2) (by intro e;have:=Option.some.inj e;omega)).trans hr2
 have hn2:StrsIn (fun b=>Fr (w.heap.size+2) w2 b∧b<w2.heap.size) w2 (.slice a3 x.names.length c3) x.names:=(hrow2.fr).mono fun b hb=>⟨⟨by have:=hb.1;omega,hb.2.1,hb.2.2⟩,hb.2.1⟩
 have hn3:=frB hn2 hg3 (fun r e=>by have:=Option.some.inj e;exact .inl (by omega))
 have B3:Below w.heap.size w (w2.setCell ⟨w.heap.size,4,none⟩ (.slice a3 x.names.length c3)):=B2.grown hg3 B2.size (fun g e=>by have:=Option.some.inj e;omega)
 have hz3:=hg3.size
 obtain ⟨w3,hw3⟩:∃W,W=w2.setCell ⟨w.heap.size,4,none⟩ (.slice a3 x.names.length c3):=⟨_,rfl⟩
 rw [←hw3] at hg3 hk3 hr3 hn3 B3 hz3
 rw [←hw3]
 have hg4:=grown_set w3 w.heap.size 5 (.slice none 0 0)
 have hk4:=six_set5 hk3 (.slice none 0 0)
 have hr4:=(hg4.block _ (lt_of_block hr3) (by intro e;have:=Option.some.inj e;omega)).trans hr3
 have hn4:=frB hn3 hg4 (fun r e=>by have:=Option.some.inj e;exact .inl (by omega))
 have B4:Below w.heap.size w (w3.setCell ⟨w.heap.size,5,none⟩ (.slice none 0 0)):=B3.grown hg4 B3.size (fun g e=>by have:=Option.some.inj e;omega)
 have hz4:=hg4.size
 obtain ⟨w4,hw4⟩:∃W,W=w3.setCell ⟨w.heap.size,5,none⟩ (.slice none 0 0):=⟨_,rfl⟩
 rw [←hw4] at hk4 hr4 hn4 B4 hz4
 rw [←hw4]
 obtain ⟨B,hBB⟩:∃B,B=w2.heap.size:=⟨_,rfl⟩
 rw [←hBB] at hn4 hz3
 have hB2:w.heap.size+2≤B:=by omega
 have hB4:B≤w4.heap.size:=by omega
 obtain ⟨lx,hlx⟩:∃lx,lx=x.items:=⟨_,rfl⟩
 have T0:Hid (RSt 28 d B w w4 x (.slice a3 x.names.length c3) 0):=Hh ⟨none,0,[],hr4,hk4,NRow.nil _ _ _ _ _,rfl,B4,(fun y hy=>by cases hy),hn4⟩
 have hl2:l2=x.items.length:=by obtain ⟨_,_,e,-⟩:=HIS.out;cases e;rfl
 subst hl2
 clear hown hgrow hrow2 hk2 hr2 B2 hz2' hg3 hk3 hr3 hn2 hn3 B3 hz3 hg4 hk4 hr4 hn4 B4 hz4 hw3 hw4 hBB f2 c2' cb hlx lx
 go_wp2
 go_loopw [15] (fun i wr=>∃j:Nat,i=.int .i64 j∧j≤x.items.length∧B≤wr.heap.size∧RSt 28 d B w wr x (.slice a3 x.names.length c3) j) (fun i _=>x.items.length - (intOf i).toNat)
 case atStart=>exact ⟨0,rfl,Nat.zero_le _,hB4,T0.out⟩
 case round=>
  clear T0 hB4
  obtain ⟨j,rfl,hj,hBs,ai,ci,A,hres,hnod,hrow,hA,hB,hpl,hnm⟩:=hrel
  by_cases hlt:j<x.items.length
  ·have hlt':(j:Int)<(x.items.length:Int):=by omega
   have hj0:(0:Int)≤(j:Int):=by omega
   have hjm:(x.items.length:Int)≤1000000:=by have:=HL.out.2.1;omega
   have HLT:=Hh hlt
   obtain ⟨-,-,-,b,off,y,b1,m1,n1,b2,m2,n2,rfl,hSb,hx,hnd,q0,q1,q2,q3,q4,q5⟩:=HIS.out.at hlt
   have hbw:=HS.out b hSb
   have r0:=(hB.cell (p:=⟨b,off+j * 6,none⟩) hbw).trans q0
   have r1:=(hB.cell (p:=⟨b,off+j * 6+1,none⟩) hbw).trans q1
   have r2:=(hB.cell (p:=⟨b,off+j * 6+2,none⟩) hbw).trans q2
   have r3:=(hB.cell (p:=⟨b,off+j * 6+3,none⟩) hbw).trans q3
   have r4:=(hB.cell (p:=⟨b,off+j * 6+4,none⟩) hbw).trans q4
   have r5:=(hB.cell (p:=⟨b,off+j * 6+5,none⟩) hbw).trans q5
   clear q0 q1 q2 q3 q4 q5
   have hlA:A.length=j:=by
    have:=congrArg List.length hA
    rw [nodesOf,List.length_map,List.length_take] at this
    omega
   have hlA2:A.length<1000000:=by omega
   clear hlA
   have hlow:=HL.out.2.2 y (List.mem_of_getElem? hx)
   have bA:=(Br wr.heap.size wr).alloc (o:=.cells #[.int .i64 y.kind,.bool y.bool,.int .i64 y.num,.string y.text,.slice b1 m1 n1,.slice b2 m2 n2] 28) (Lr _)
   have kA:=Hn wr (.cells #[.int .i64 y.kind,.bool y.bool,.int .i64 y.num,.string y.text,.slice b1 m1 n1,.slice b2 m2 n2] 28)
   have HNOD:=Hh hnod
   have HRES:=Hh hres
   have HROW:=Hh hrow
   have HBR:=Hh hB
   have HPL:=Hh hpl
   have HNM:=Hh hnm
   have HX:=Hh hx
   have HA:=Hh hA
   have HND:=Hh hnd
   have HLOW:=Hh hlow
   clear hnod hres hrow hB hpl hnm hx hA hnd hlow
   go_upto_region 6 with fail
   clear r0 r1 r2 r3 r4 r5
   generalize wr.alloc (.cells #[.int .i64 y.kind,.bool y.bool,.int .i64 y.num,.string y.text,.slice b1 m1 n1,.slice b2 m2 n2] 28)=W1 at bA kA ⊢
   have bd:Below W1.heap.size W1 W1.drew:=(Br _ _).drew
   have k1:=(bA.block _ (lt_of_block HNOD.out)).trans HNOD.out
   have CK:=Hh (fun (wx:World) (hb:Below W1.heap.size W1 wx)=>Ai (six_of ((hb.block _ (lt_of_block k1)).trans k1)).2.2.2.2.2 (six_of ((hb.block _ (lt_of_block kA)).trans kA)))
   have bA1:=bA.size
   have HBA:=Hh bA
   clear bA kA k1
   refine wp_region_plan (fun w'=>w'.cell? ⟨w.heap.size,5,none⟩=some (.slice ai A.length ci)∧(w'.cell? ⟨wr.heap.size,0,none⟩=some (.int .i64 y.kind)∧w'.cell? ⟨wr.heap.size,1,none⟩=some (.bool y.bool)∧w'.cell? ⟨wr.heap.size,2,none⟩=some (.int .i64 y.num)∧w'.cell? ⟨wr.heap.size,3,none⟩=some (.string y.text)∧w'.cell? ⟨wr.heap.size,4,none⟩=some (.slice b1 m1 n1)∧w'.cell? ⟨wr.heap.size,5,none⟩=some (.slice b2 m2 n2))) [1,2] (.take 0 (.take 1 (.take 2 (.ask 3 true (.ask 4 true (.ask 5 false (.take 6 (.ask 7 false .stop .stop)) .stop) .stop) .stop)))) (by kernel_rfl) (by kernel_rfl) (fun _ d _ _ _ h=>by cases d <;> exact h) (CK.out _ bd) ?_
   have BRD:=HBA.out.trans (bd.mono bA1)
   generalize W1.drew=wd at bd BRD ⊢
   refine take_any _ ?_ rfl rfl ?_ (fun K hK=>?_);rotate_left;(intro w0;go_simp;(try rfl));(go_simp;refine hK _ ?_;clear hK K)
   refine take_held _ ?_ rfl rfl (by decide) ?_ (fun K hK=>?_);rotate_left;(intro w0 hw0;go_simp;(try rfl));(go_simp;refine hK _ ?_;clear hK K)
   refine take_held _ ?_ rfl rfl (by decide) ?_ (fun K hK=>?_);rotate_left;(intro w0 hw0;go_simp;(try rfl));(go_simp;refine hK _ ?_;clear hK K)
   have CC:=Hh (HCC.out S _ y wd (HND.out.same fun b hb=>(BRD.block b (Ll (HS.out b hb) HBR.out.size)).trans (HBR.out.block b (HS.out b hb))) (fun b hb=>Ll (Ll (HS.out b hb) HBR.out.size) BRD.size) HLOW.out)
   refine ask_step _ rfl trivial ?_
   go_wp2_with (go_at_call 46;(with_reducible refine (CC.out).mono ?_);rintro e W2 ⟨cy,rfl,hn2,hb2⟩;obtain ⟨a5,l5,c5,a6,l6,c6,rfl⟩:=hn2.slices)
   have B2:=bd.trans (hb2.mono bd.size)
   refine Seg.mk ⟨CK.out _ B2,?_⟩
   have b3:=(Br W2.heap.size W2).alloc (o:=.cells #[.int .i64 y.kind,.bool y.bool,.int .i64 y.num,.string y.text,.slice a5 l5 c5,.slice a6 l6 c6] 28) (Lr _)
   have cn3:=cells_new W2 #[.int .i64 y.kind,.bool y.bool,.int .i64 y.num,.string y.text,.slice a5 l5 c5,.slice a6 l6 c6] 28 [.int .i64 y.kind,.bool y.bool,.int .i64 y.num,.string y.text,.slice a5 l5 c5,.slice a6 l6 c6] rfl
   have B3:=B2.trans (b3.mono B2.size)
   have ck3:=CK.out _ B3
   have BR3:=HBA.out.trans (B3.mono bA1)
   have hrow3:=HROW.out.below BR3
   have hpl3:=NRow.plain HROW.out HPL.out (Below.grown BR3) (fun r e=>by cases e)
   have hB3:=HBR.out.trans (BR3.mono HBR.out.size)
   have hnm3:=frB HNM.out (Below.grown BR3) (fun r e=>by cases e)
   have hn3:=hn2.same (w':=W2.alloc (.cells #[.int .i64 y.kind,.bool y.bool,.int .i64 y.num,.string y.text,.slice a5 l5 c5,.slice a6 l6 c6] 28)) fun b hb=>b3.block b hb.2.1
   have hbs:B≤(W2.alloc (.cells #[.int .i64 y.kind,.bool y.bool,.int .i64 y.num,.string y.text,.slice a5 l5 c5,.slice a6 l6 c6] 28)).heap.size:=Nat.le_trans hBs BR3.size
   have hone:=hn2.one
   refine ask_step _ rfl trivial ?_
   go_wp2_with fail
   generalize hW3:W2.alloc (.cells #[.int .i64 y.kind,.bool y.bool,.int .i64 y.num,.string y.text,.slice a5 l5 c5,.slice a6 l6 c6] 28)=W3 at b3 cn3 B3 ck3 BR3 hrow3 hpl3 hB3 hnm3 hn3 hbs ⊢
   clear hW3
   refine Seg.mk ⟨ck3,?_⟩
   refine ask_late _ rfl trivial ?_
   have HR3:=Hh hrow3
   have HC3:=Hh cn3
   go_wp2_with (refine wpList_append_lies _ rfl (.tmp 20) (.tmp 23) 26 rfl B 28 ip (.agg #[.int .i64 0,.bool false,.int .i64 0,.string ⟨#[]⟩,.slice none 0 0,.slice none 0 0]) 6 88 hug HIP.out hz0 hz1 hz2 rfl (by decide) (.slice ai A.length ci) A.length _ rfl HR3.out.1 ⟨W2.heap.size,0,none⟩ 1 1 [.int .i64 y.kind,.bool y.bool,.int .i64 y.num,.string y.text,.slice a5 l5 c5,.slice a6 l6 c6] rfl rfl HC3.out hone (by decide) (by unfold maxLen;omega) (by omega) hbs _ rfl ?_;intro gg cc W8 hown hgrow hat hlt2)
   have hlo:∀g,(Value.slice ai A.length ci).ownBlock=some g→B≤g:=fun g e=>(HR3.out.1.lt _ e).1
   have hk8:=(hgrow.block _ (Ll (lt_of_block HNOD.out) BR3.size) (fun e=>by have:=hlo _ e.symm;omega)).trans ((BR3.block _ (lt_of_block HNOD.out)).trans HNOD.out)
   have hres8:=(hgrow.block _ (Ll (lt_of_block HRES.out) BR3.size) (fun e=>by have:=hlo _ e.symm;omega)).trans ((BR3.block _ (lt_of_block HRES.out)).trans HRES.out)
   have hf8:=free_six hk8
   have hd8:=six_of hk8
   have hrow8:=HR3.out.push (x:=y) hown hgrow (own_at hat) (fun b e=>by cases e) (hn3.mono fun b hb=>⟨by have:=hb.1;have:=BRD.size;omega,Ll hb.2.1 b3.size,own_lt HROW.out.1 (Nat.le_trans BRD.size hb.1),by simp⟩)
   have hpl8:∀z,z ∈ A++[([.int .i64 y.kind,.bool y.bool,.int .i64 y.num,.string y.text,.slice a5 l5 c5,.slice a6 l6 c6],y)]→NodeIn d (PlainB W8) W8 z.1 z.2:=by
    intro z hz
    rcases List.mem_append.1 hz with hz | hz
    ·exact NRow.plain HR3.out hpl3 hgrow (fun r e=>.inr e) z hz
    ·cases List.mem_singleton.1 hz
     have e8:∀b,Fr wd.heap.size W2 b→W8.heap[b]?=W2.heap[b]?:=fun b hb=>(hgrow.block b (Ll hb.2.1 b3.size) (fun e=>own_lt HROW.out.1 (Nat.le_trans BRD.size hb.1) e.symm)).trans (b3.block b hb.2.1)
     exact (hn2.same e8).mono fun b hb=>(hb.move (base':=0) (e8 b hb) (Nat.zero_le _) (Nat.le_trans b3.size hgrow.size)).2.2
   have hB8:Below w.heap.size w W8:=hB3.grown hgrow hB3.size (fun g e=>by have:=hlo _ e;omega)
   have hnm8:=frB hnm3 hgrow (fun r e=>.inr (hlo r e))
   have hgs:=grown_set W8 w.heap.size 5 (.slice (some ⟨gg,0,none⟩) (A.length+1) cc)
   have hk9:=six_set5 hk8 (.slice (some ⟨gg,0,none⟩) (A.length+1) cc)
   have hres9:=(hgs.block _ (lt_of_block hres8) (by intro e;have:=Option.some.inj e;omega)).trans hres8
   have hrow9:=hrow8.kept hgs (fun r e=>.inl (by have:=Option.some.inj e;omega)) (.inl rfl)
   have hpl9:=NRow.plain hrow8 hpl8 hgs (fun r e=>.inl (by have:=Option.some.inj e;omega))
   have hB9:Below w.heap.size w (W8.setCell ⟨w.heap.size,5,none⟩ (.slice (some ⟨gg,0,none⟩) (A.length+1) cc)):=hB8.grown hgs hB8.size (fun g e=>by have:=Option.some.inj e;omega)
   have hnm9:=frB hnm8 hgs (fun r e=>.inl (by have:=Option.some.inj e;omega))
   have hbs9:B≤(W8.setCell ⟨w.heap.size,5,none⟩ (.slice (some ⟨gg,0,none⟩) (A.length+1) cc)).heap.size:=Nat.le_trans hbs (Nat.le_trans hgrow.size hgs.size)
   have hlen:(A++[(([.int .i64 y.kind,.bool y.bool,.int .i64 y.num,.string y.text,.slice a5 l5 c5,.slice a6 l6 c6]:List Value),y)]).length=A.length+1:=by simp
   have F9:=Hh (show RSt 28 d B w (W8.setCell ⟨w.heap.size,5,none⟩ (.slice (some ⟨gg,0,none⟩) (A.length+1) cc)) x (.slice a3 x.names.length c3) (j+1) from ⟨some ⟨gg,0,none⟩,cc,_,hres9,by rw [hlen];exact hk9,by rw [hlen];exact hrow9,by rw [take_snocN HX.out,←HA.out];simp [nodesOf],hB9,hpl9,hnm9⟩)
   clear hk9 hres9 hrow9 hpl9 hB9 hnm9 hlen hrow8 hpl8 hB8 hnm8 hgs hres8 hk8 hown hgrow hat hpl3 hB3 hrow3 hnm3 hn3 hn2 hb2 b3
   refine Seg.mk ?_
   refine take_any _ ?_ rfl rfl ?_ (fun K hK=>?_);rotate_left;(intro w0;go_simp;(try rfl));(go_simp;refine hK _ ?_;clear hK K)
   refine ask_last _ rfl trivial ?_
   go_wp2
   go_roundw
   case rel=>exact ⟨j+1,by go_num,by have:=HLT.out;omega,hbs9,F9.out⟩
   case measure=>have:=HLT.out;simp [intOf];omega
  ·have hlt':¬ (j:Int)<(x.items.length:Int):=by omega
   have hjl:j=x.items.length:=by omega
   rw [hjl,List.take_length] at hA
   have q1:=six_of hnod
   have q2:=six_of hres
   have q3:=free_six hres
   have HA:=Hh hA
   have HRES:=Hh hres
   have HN:=Hh (Ai hrow hpl)
   have HBR:=Hh hB
   have HNM:=Hh hnm
   clear hA hres hnod hrow hpl hB hjl hnm
   go_wp2
   have hput:=six_put HRES.out (.int .i64 x.kind) (.bool x.bool) (.int .i64 x.num) (.string x.text) (.slice a3 x.names.length c3) (.slice ai A.length ci)
   have hgf:=grown_set6 wr (w.heap.size+1) (.int .i64 x.kind) (.bool x.bool) (.int .i64 x.num) (.string x.text) (.slice a3 x.names.length c3) (.slice ai A.length ci)
   refine bodyPost_ret (v:=.agg #[.int .i64 x.kind,.bool x.bool,.int .i64 x.num,.string x.text,.slice a3 x.names.length c3,.slice ai A.length ci]) ?_ ?_ ?_
   rotate_left
   ·rfl
   ·have hr0:∀r,some (w.heap.size+1)=some r→r<B∨(none:Option Nat)=some r:=fun r e=>.inl (by have:=Option.some.inj e;omega)
    exact ⟨B,_,_,_,A,rfl,hB2,HT.out,frB HNM.out hgf (fun r e=>.inl (by have:=Option.some.inj e;omega)),HN.out.1.kept hgf hr0 (.inl rfl),NRow.plain HN.out.1 HN.out.2 hgf (fun r e=>.inl (by have:=Option.some.inj e;omega)),HA.out,HBR.out.grown hgf HBR.out.size (fun g e=>by have:=Option.some.inj e;omega)⟩
   ·obtain ⟨q0,q1,q2,q3,q4,q5⟩:=six_of hput
    simp only [set6] at q0 q1 q2 q3 q4 q5
    simp [results,Tryz.results46,go_sem,q0,q1,q2,q3,q4,q5]
theorem rcopy_any:∀ (d:Nat) (S:Nat→Prop) (cs:List Value) (x:ND) (w:World),NodeIn d S w cs x→(∀b,S b→b<w.heap.size)→lowN d x→Calls Tryz.prog 46 #[.agg cs.toArray] w (NodeNew d w x)
 | 0,S,cs,x,w,h,_,_=>h.elim
 | d+1,S,cs,x,w,h,hS,hl=>(rcopy_step (fun S cs x w h hS hl=>rcopy_any d S cs x w h hS hl) S cs x w h hS hl).mono fun e w' h=>h.new
end Go.Proofs.YtcklddldejejcaaGreatDoor