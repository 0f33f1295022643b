/- The writer of the second serialisation: node, at every depth. -/
import Derived.Test.YtdppdonaojdceaaGreatDoorCpn
import Derived.Test.YtdppdonaojdceaaGreatDoorCwp
set_option linter.unusedVariables false
set_option linter.unusedSimpArgs false
set_option maxHeartbeats 12800000
set_option maxRecDepth 100000
namespace Go.Proofs.YtdppdonaojdceaaGreatDoor
open Go Go.ChangeShapes Go.WideShapes Go.ChangeAt Go.RowKit Go.Shelf
attribute [local go_sem] Oper.semAt_some
theorem twnu {cs:Array Value}:∀ (ds:Array Value) (fz:Nat × Nat),Obj.cells cs 127 (0,0) ≠ Obj.cells ds 5 fz:=fun ds fz e=>by simp at e
theorem tnnu {cs:Array Value}:∀ (ds:Array Value) (fz:Nat × Nat),Obj.cells cs 30 (0,0) ≠ Obj.cells ds 5 fz:=fun ds fz e=>by simp at e
def WNPost (B g:Nat) (l T:List UInt8) (w:World) (e:Ending) (w':World):Prop:=e=.returned (.tuple #[])∧∃l',WScC B w' g l'∧Out l T l'∧l'.length≤140000∧WFr 5 g w w'
def WNodeAt (d:Nat):Prop:=∀ (D:Nat) (S:Nat→Prop) (cs:List Value) (x:ND) (w:World) (B g:Nat) (l:List UInt8),WScC B w g l→B≤w.heap.size→l.length≤65536→NodeIn D S w cs x→(∀b,S b→b<g)→validN d x=true→numsB d x=true →
 Calls Tryz.prog 68 #[.pointer (some ⟨g,0,none⟩),.agg cs.toArray] w (WNPost B g l (writeC d x) w)
theorem wnode_step {d:Nat} (IH:WNodeAt d):WNodeAt (d+1):=by
 intro D S cs x w B g l hst hB hl h hS hv hn
 obtain ⟨a1,l1,c1,a2,l2,c2,rfl⟩:=h.slices
 cases D with
 | zero=>exact h.elim
 | succ D=>
 have hgl:=hst.lt
 obtain ⟨p1,hp1⟩:∃p,p=w.heap.size:=⟨_,rfl⟩
 obtain ⟨p2,hp2⟩:∃p,p=w.heap.size+1:=⟨_,rfl⟩
 have hxt:x.text.size≤65536:=textOk_le (validN_parts hv).2.2.1
 have hcn:=cCnt_lt hv hn
 have hcm:=cMaj_lt x
 have bb:=((Br w.heap.size w).alloc (o:=.cells #[.pointer (some ⟨g,0,none⟩)] 127) (Lr _)).alloc (o:=.cells #[.int .i64 x.kind,.bool x.bool,.int .i64 x.num,.string x.text,.slice a1 l1 c1,.slice a2 l2 c2] 30) (by simp)
 have k1:=((Br (w.heap.size+1) (w.alloc (.cells #[.pointer (some ⟨g,0,none⟩)] 127))).alloc (o:=.cells #[.int .i64 x.kind,.bool x.bool,.int .i64 x.num,.string x.text,.slice a1 l1 c1,.slice a2 l2 c2] 30) (by simp)).block w.heap.size (by omega) |>.trans (Hn w (.cells #[.pointer (some ⟨g,0,none⟩)] 127))
 have k2:=Hn (w.alloc (.cells #[.pointer (some ⟨g,0,none⟩)] 127)) (.cells #[.int .i64 x.kind,.bool x.bool,.int .i64 x.num,.string x.text,.slice a1 l1 c1,.slice a2 l2 c2] 30)
 rw [World.size_alloc] at k2
 rw [←hp1] at k1
 rw [←hp2] at k2
 obtain ⟨w2,hw2⟩:∃W,W=(w.alloc (.cells #[.pointer (some ⟨g,0,none⟩)] 127)).alloc (.cells #[.int .i64 x.kind,.bool x.bool,.int .i64 x.num,.string x.text,.slice a1 l1 c1,.slice a2 l2 c2] 30):=⟨_,rfl⟩
 rw [←hw2] at bb k1 k2
 have hst2:=hst.below bb
 have hfr2:=WFr.of_below (TB:=5) bb (Nat.le_of_lt hgl)
 have hB2:B≤w2.heap.size:=Nat.le_trans hB bb.size
 have h2:NodeIn (D+1) S w2 [.int .i64 x.kind,.bool x.bool,.int .i64 x.num,.string x.text,.slice a1 l1 c1,.slice a2 l2 c2] x:=h.same fun b hb=>bb.block b (Nat.lt_trans (hS b hb) hgl)
 have hne1:p1 ≠ g:=by omega
 have hne2:p2 ≠ g:=by omega
 have HF:=Hh (fun (wx:World) (hb:Below w2.heap.size w2 wx)=>headOf_any _ x wx (h2.same fun b hb'=>hb.block b (Ll (Nat.lt_trans (hS b hb') hgl) bb.size)) hv hn)
 have HTX:=Hh (fun (wx:World)=>phead_any (cMaj x) (cCnt x) wx hcm hcn)
 rw [show headV7 x=.agg #[.int .i64 (cMaj x:Int),.int .u64 (cCnt x:Int)] from rfl] at HF
 obtain ⟨hd,hhd⟩:∃t:ByteArray,t=bC (headL (cMaj x) (cCnt x)):=⟨_,rfl⟩
 rw [←hhd] at HTX
 have hhl:hd.size≤9:=by rw [hhd,bC_size,headL_length];have:=headK_le (cCnt x);omega
 have hhdl:hd.data.toList=headL (cMaj x) (cCnt x):=by rw [hhd,bC_data]
 have HHD:=Hh hhdl
 obtain ⟨zm,hzm⟩:∃z:Int,z=(cMaj x:Int):=⟨_,rfl⟩
 obtain ⟨zc,hzc⟩:∃z:Int,z=(cCnt x:Int):=⟨_,rfl⟩
 rw [←hzm,←hzc] at HF HTX
 have HIH:=Hh IH
 have H:=Hh (Ai h2 (Ai hS (Ai hv hn)))
 have K1:=Hh k1
 have K2:=Hh k2
 have FR2:=Hh hfr2
 have ST2:=Hh hst2
 have HP12:=Hh (Ai hp1 hp2)
 clear IH h h2 hS hv hn hcn hcm k1 k2 hfr2 hst2 hst bb hhd hhdl hzm hzc hB
 obtain ⟨ib,hib,hb0,hb1,hb2⟩:=info_parts Tryz.info5
 have hub:=Tryz.underlying56
 have hust:=Tryz.underlying9
 have HIB:=Hh hib
 clear hib
 refine (callsIn_wide (n:=10)).1 ?_
 refine callsIn_of_wp_marks Tryz.func68 rfl trivial ?_ rfl
 simp only [Tryz.ntmps68,List.size_toArray,List.length_cons,List.length_nil,Nat.reduceAdd,Nat.reduceSub,Array.replicate_succ,Array.replicate_zero,List.push_toArray,List.append_toArray,List.nil_append,List.cons_append]
 refine wpIn_mono (Q:=NoPan _) ?_ NoPan.out
 refine wpIn_wide.2 ?_
 go_upto_region 1 with fail
 rw [←hw2,←hp2,←hp1]
 clear hw2 hp1 hp2
 -- THE HEAD
 have hwd:Below w2.heap.size w2 w2.drew:=(Br _ _).drew
 have std:=ST2.out.below hwd
 obtain ⟨vv,hv1,hv2,hv3⟩:=id ST2.out
 have cs2:(w2.cell? ⟨p1,0,none⟩=some (.pointer (some ⟨g,0,none⟩))∧w2.cell? ⟨g,0,none⟩=some (vv))∧w2.cell? ⟨p2,0,none⟩=some (.int .i64 x.kind)∧w2.cell? ⟨p2,1,none⟩=some (.bool x.bool)∧w2.cell? ⟨p2,2,none⟩=some (.int .i64 x.num)∧w2.cell? ⟨p2,3,none⟩=some (.string x.text)∧w2.cell? ⟨p2,4,none⟩=some (.slice a1 l1 c1)∧w2.cell? ⟨p2,5,none⟩=some (.slice a2 l2 c2):=⟨⟨cell_blk K1.out rfl,cell_blk hv1 rfl⟩,six_of K2.out⟩
 have csd:(w2.drew.cell? ⟨p1,0,none⟩=some (.pointer (some ⟨g,0,none⟩))∧w2.drew.cell? ⟨g,0,none⟩=some (vv))∧w2.drew.cell? ⟨p2,0,none⟩=some (.int .i64 x.kind)∧w2.drew.cell? ⟨p2,1,none⟩=some (.bool x.bool)∧w2.drew.cell? ⟨p2,2,none⟩=some (.int .i64 x.num)∧w2.drew.cell? ⟨p2,3,none⟩=some (.string x.text)∧w2.drew.cell? ⟨p2,4,none⟩=some (.slice a1 l1 c1)∧w2.drew.cell? ⟨p2,5,none⟩=some (.slice a2 l2 c2):=cs2
 have hsz:p1<w2.drew.heap.size∧p2<w2.drew.heap.size∧g<w2.drew.heap.size:=⟨lt_of_block K1.out,lt_of_block K2.out,lt_of_block hv1⟩
 clear hv1 hv2 hv3
 refine wp_region_plan (fun w'=>(w'.cell? ⟨p1,0,none⟩=some (.pointer (some ⟨g,0,none⟩))∧w'.cell? ⟨g,0,none⟩=some (vv))∧w'.cell? ⟨p2,0,none⟩=some (.int .i64 x.kind)∧w'.cell? ⟨p2,1,none⟩=some (.bool x.bool)∧w'.cell? ⟨p2,2,none⟩=some (.int .i64 x.num)∧w'.cell? ⟨p2,3,none⟩=some (.string x.text)∧w'.cell? ⟨p2,4,none⟩=some (.slice a1 l1 c1)∧w'.cell? ⟨p2,5,none⟩=some (.slice a2 l2 c2)) [0,1,4,5] (.take 0 (.take 1 (.take 2 (.take 3 (.take 4 (.take 5 (.ask 6 true (.ask 7 true (.ask 8 true (.ask 9 false (.take 10 (.ask 11 false .stop .stop)) .stop) .stop) .stop) .stop))))))) (by kernel_rfl) (by kernel_rfl) (fun _ d _ _ _ h=>by cases d <;> exact h) cs2 ?_
 clear cs2
 generalize w2.drew=wd at hwd std csd hsz ⊢
 refine take_held _ ?_ rfl rfl (by decide) ?_ (fun K hK=>?_);rotate_left;(intro w0 hw0;obtain ⟨⟨s0,s1⟩,s2,s3,s4,s5,s6,s7⟩:=hw0;go_simp;(try rfl));(go_simp;refine hK _ ?_;clear hK K)
 refine take_held _ ?_ rfl rfl (by decide) ?_ (fun K hK=>?_);rotate_left;(intro w0 hw0;obtain ⟨⟨s0,s1⟩,s2,s3,s4,s5,s6,s7⟩:=hw0;go_simp;(try rfl));(go_simp;refine hK _ ?_;clear hK K)
 refine take_any _ ?_ rfl rfl ?_ (fun K hK=>?_);rotate_left;(intro w0;go_simp;(try rfl));(go_simp;refine hK _ ?_;clear hK K)
 refine take_any _ ?_ rfl rfl ?_ (fun K hK=>?_);rotate_left;(intro w0;go_simp;(try rfl));(go_simp;refine hK _ ?_;clear hK K)
 refine take_held _ ?_ rfl rfl (by decide) ?_ (fun K hK=>?_);rotate_left;(intro w0 hw0;obtain ⟨⟨s0,s1⟩,s2,s3,s4,s5,s6,s7⟩:=hw0;go_simp;(try rfl));(go_simp;refine hK _ ?_;clear hK K)
 refine take_held _ ?_ rfl rfl (by decide) ?_ (fun K hK=>?_);rotate_left;(intro w0 hw0;obtain ⟨⟨s0,s1⟩,s2,s3,s4,s5,s6,s7⟩:=hw0;go_simp;(try rfl));(go_simp;refine hK _ ?_;clear hK K)
 have KC:=Hh (fun (wx:World) (hb:Below wd.heap.size wd wx)=>(show (wx.cell? ⟨p1,0,none⟩=some (.pointer (some ⟨g,0,none⟩))∧wx.cell? ⟨g,0,none⟩=some (vv))∧wx.cell? ⟨p2,0,none⟩=some (.int .i64 x.kind)∧wx.cell? ⟨p2,1,none⟩=some (.bool x.bool)∧wx.cell? ⟨p2,2,none⟩=some (.int .i64 x.num)∧wx.cell? ⟨p2,3,none⟩=some (.string x.text)∧wx.cell? ⟨p2,4,none⟩=some (.slice a1 l1 c1)∧wx.cell? ⟨p2,5,none⟩=some (.slice a2 l2 c2) from ⟨⟨(hb.cell (p:=⟨p1,0,none⟩) hsz.1).trans csd.1.1,(hb.cell (p:=⟨g,0,none⟩) hsz.2.2).trans csd.1.2⟩,(hb.cell (p:=⟨p2,0,none⟩) hsz.2.1).trans csd.2.1,(hb.cell (p:=⟨p2,1,none⟩) hsz.2.1).trans csd.2.2.1,(hb.cell (p:=⟨p2,2,none⟩) hsz.2.1).trans csd.2.2.2.1,(hb.cell (p:=⟨p2,3,none⟩) hsz.2.1).trans csd.2.2.2.2.1,(hb.cell (p:=⟨p2,4,none⟩) hsz.2.1).trans csd.2.2.2.2.2.1,(hb.cell (p:=⟨p2,5,none⟩) hsz.2.1).trans csd.2.2.2.2.2.2⟩))
 have HWD:=Hh hwd
 have STD:=Hh std
 clear csd hsz hwd std
 refine ask_step _ rfl trivial ?_;go_wp2_with (go_at_call 102;(with_reducible refine (HF.out _ HWD.out).mono ?_);rintro e w3 ⟨rfl,hb3⟩);refine Seg.mk ⟨KC.out _ hb3,?_⟩
 have HB3:=Hh hb3
 clear hb3
 refine ask_step _ rfl trivial ?_;go_wp2_with (go_at_call 103;(with_reducible refine (HTX.out _).mono ?_);rintro e w4 ⟨rfl,hb4⟩)
 have hb34:=HB3.out.trans (hb4.mono HB3.out.size)
 refine Seg.mk ⟨KC.out _ hb34,?_⟩
 have st4:=STD.out.below hb34
 have B4:B≤w4.heap.size:=Nat.le_trans hB2 (Nat.le_trans HWD.out.size hb34.size)
 have c4:=KC.out _ hb34
 obtain ⟨v4,h41,h42,h43⟩:=st4
 have hvv:v4=vv:=by
  have:=cell_blk h41 (j:=0) rfl
  rw [c4.1.2] at this
  exact (Option.some.inj this).symm
 subst hvv
 obtain ⟨ao,cap,rfl,-,-⟩:=wown_form h42
 have hss:hd.data.toList.length=hd.size:=by rw [Array.length_toList];rfl
 have ST:=Hh (fun (w8:World) (v':Value) (ho:w8.ownsRow B 5 1 v' (l.length+hd.size) (bytesV l++Lib.strCells hd)) (hg:w4.grownBy w8 (Value.slice ao l.length cap).ownBlock)=>wsc_step (l':=l++hd.data.toList) h41 h42 h43 twc (by rw [Lg,hss,bytesV_append];exact ho) hg)
 have H42:=Hh h42
 have HBB:=Hh (HWD.out.trans (hb34.mono HWD.out.size))
 have K14:=Hh ((HBB.out.block _ (lt_of_block K1.out)).trans K1.out)
 have K24:=Hh ((HBB.out.block _ (lt_of_block K2.out)).trans K2.out)
 clear hb34 hb4 c4 hss KC HB3 HWD STD HF HTX h42 h41
 refine ask_step _ rfl trivial ?_
 go_wp2_with (at_builtin;refine Lib.wpList_append_own_string _ rfl (.tmp 9) (.tmp 12) 56 9 rfl B 5 ib hub hust HIB.out hb0 hb1 hb2 _ l.length _ rfl H42.out hd rfl (by unfold maxLen;omega) (by omega) B4 ?_;intro v' w8 hown hgr hnil)
 obtain ⟨ao8,cap8,rfl,-,-⟩:=wown_form hown
 obtain ⟨k8,st8,fr8⟩:=ST.out w8 _ hown hgr
 have k18:=(heap_setCell_other w8 ⟨g,0,none⟩ p1 (.slice ao8 (l.length+hd.size) cap8) hne1).symm.trans (fr8.2 p1 _ hne1 K14.out twnu)
 have k28:=(heap_setCell_other w8 ⟨g,0,none⟩ p2 (.slice ao8 (l.length+hd.size) cap8) hne2).symm.trans (fr8.2 p2 _ hne2 K24.out tnnu)
 have K15:=Hh (fr8.2 p1 _ hne1 K14.out twnu)
 have K25:=Hh (fr8.2 p2 _ hne2 K24.out tnnu)
 have ST5:=Hh st8
 have FR5:=Hh fr8
 refine Seg.mk ⟨⟨⟨cell_blk k18 rfl,cell_blk k8 rfl⟩,six_of k28⟩,?_⟩
 have c8:w8.cell? ⟨g,0,none⟩=some (.slice ao l.length cap):=cell_blk k8 rfl
 have f8:w8.frozen? ⟨g,0,none⟩=false:=free_blk k8
 clear hown hgr hnil k8 st8 fr8 k18 k28 ST H42 K14 K24
 refine ask_late _ rfl trivial ?_;go_wp2_with fail;refine Seg.mk ?_
 refine take_any _ ?_ rfl rfl ?_ (fun K hK=>?_);rotate_left;(intro w0;go_simp;(try rfl));(go_simp;refine hK _ ?_;clear hK K)
 refine ask_last _ rfl trivial ?_
 go_upto_region 2 with fail
 generalize w8.setCell ⟨g,0,none⟩ (.slice ao8 (l.length+hd.size) cap8)=w5 at K15 K25 ST5 FR5 ⊢
 -- THE TEXT
 obtain ⟨l1',hl1'⟩:∃t,t=l++hd.data.toList:=⟨_,rfl⟩
 rw [←hl1'] at ST5
 have hl1n:l1'.length≤65545:=by rw [hl1',Lg,show hd.data.toList.length=hd.size by rw [Array.length_toList];rfl];omega
 rw [HHD.out] at hl1'
 have HL1:=Hh hl1'
 have B5:B≤w5.heap.size:=Nat.le_trans B4 FR5.out.1.size
 clear hl1' c8 f8
 have hwd:Below w5.heap.size w5 w5.drew:=(Br _ _).drew
 obtain ⟨v5,h51,h52,h53⟩:=id ST5.out
 obtain ⟨ao5,cap5,rfl,-,-⟩:=wown_form h52
 have cs5:(w5.cell? ⟨p1,0,none⟩=some (.pointer (some ⟨g,0,none⟩))∧w5.cell? ⟨g,0,none⟩=some ((.slice ao5 l1'.length cap5)))∧w5.cell? ⟨p2,0,none⟩=some (.int .i64 x.kind)∧w5.cell? ⟨p2,1,none⟩=some (.bool x.bool)∧w5.cell? ⟨p2,2,none⟩=some (.int .i64 x.num)∧w5.cell? ⟨p2,3,none⟩=some (.string x.text)∧w5.cell? ⟨p2,4,none⟩=some (.slice a1 l1 c1)∧w5.cell? ⟨p2,5,none⟩=some (.slice a2 l2 c2):=⟨⟨cell_blk K15.out rfl,cell_blk h51 rfl⟩,six_of K25.out⟩
 have hss:x.text.data.toList.length=x.text.size:=by rw [Array.length_toList];rfl
 have D1:w5.drew.heap[g]?=some (.cells #[.slice ao5 l1'.length cap5] 92 (0,0)):=h51
 have D2:w5.drew.ownsRow B 5 1 (.slice ao5 l1'.length cap5) l1'.length (bytesV l1'):=h52
 have ST:=Hh (fun (w8:World) (v':Value) (ho:w8.ownsRow B 5 1 v' (l1'.length+x.text.size) (bytesV l1'++Lib.strCells x.text)) (hg:w5.drew.grownBy w8 (Value.slice ao5 l1'.length cap5).ownBlock)=>wsc_step (l':=l1'++x.text.data.toList) D1 D2 h53 twc (by rw [Lg,hss,bytesV_append];exact ho) hg)
 have H52:=Hh D2
 have HBB2:=Hh hwd
 have K1d:Hid (w5.drew.heap[p1]?=some (.cells #[.pointer (some ⟨g,0,none⟩)] 127 (0,0))):=Hh K15.out
 have K2d:Hid (w5.drew.heap[p2]?=some (.cells #[.int .i64 x.kind,.bool x.bool,.int .i64 x.num,.string x.text,.slice a1 l1 c1,.slice a2 l2 c2] 30 (0,0))):=Hh K25.out
 have Bd:B≤w5.drew.heap.size:=B5
 clear h51 h52 h53 hss D1 D2 hwd
 refine wp_region_plan (fun w'=>(w'.cell? ⟨p1,0,none⟩=some (.pointer (some ⟨g,0,none⟩))∧w'.cell? ⟨g,0,none⟩=some ((.slice ao5 l1'.length cap5)))∧w'.cell? ⟨p2,0,none⟩=some (.int .i64 x.kind)∧w'.cell? ⟨p2,1,none⟩=some (.bool x.bool)∧w'.cell? ⟨p2,2,none⟩=some (.int .i64 x.num)∧w'.cell? ⟨p2,3,none⟩=some (.string x.text)∧w'.cell? ⟨p2,4,none⟩=some (.slice a1 l1 c1)∧w'.cell? ⟨p2,5,none⟩=some (.slice a2 l2 c2)) [0,1,4,6] (.take 0 (.take 1 (.take 2 (.take 3 (.take 4 (.take 5 (.take 6 (.ask 7 true (.ask 8 false (.take 9 (.ask 10 false .stop .stop)) .stop) .stop)))))))) (by kernel_rfl) (by kernel_rfl) (fun _ d _ _ _ h=>by cases d <;> exact h) cs5 ?_
 clear cs5
 generalize w5.drew=wd at ST H52 HBB2 K1d K2d Bd ⊢
 refine take_held _ ?_ rfl rfl (by decide) ?_ (fun K hK=>?_);rotate_left;(intro w0 hw0;obtain ⟨⟨s0,s1⟩,s2,s3,s4,s5,s6,s7⟩:=hw0;go_simp;(try rfl));(go_simp;refine hK _ ?_;clear hK K)
 refine take_held _ ?_ rfl rfl (by decide) ?_ (fun K hK=>?_);rotate_left;(intro w0 hw0;obtain ⟨⟨s0,s1⟩,s2,s3,s4,s5,s6,s7⟩:=hw0;go_simp;(try rfl));(go_simp;refine hK _ ?_;clear hK K)
 refine take_any _ ?_ rfl rfl ?_ (fun K hK=>?_);rotate_left;(intro w0;go_simp;(try rfl));(go_simp;refine hK _ ?_;clear hK K)
 refine take_any _ ?_ rfl rfl ?_ (fun K hK=>?_);rotate_left;(intro w0;go_simp;(try rfl));(go_simp;refine hK _ ?_;clear hK K)
 refine take_held _ ?_ rfl rfl (by decide) ?_ (fun K hK=>?_);rotate_left;(intro w0 hw0;obtain ⟨⟨s0,s1⟩,s2,s3,s4,s5,s6,s7⟩:=hw0;go_simp;(try rfl));(go_simp;refine hK _ ?_;clear hK K)
 refine take_any _ ?_ rfl rfl ?_ (fun K hK=>?_);rotate_left;(intro w0;go_simp;(try rfl));(go_simp;refine hK _ ?_;clear hK K)
 refine take_held _ ?_ rfl rfl (by decide) ?_ (fun K hK=>?_);rotate_left;(intro w0 hw0;obtain ⟨⟨s0,s1⟩,s2,s3,s4,s5,s6,s7⟩:=hw0;go_simp;(try rfl));(go_simp;refine hK _ ?_;clear hK K)
 refine ask_step _ rfl trivial ?_
 go_wp2_with (at_builtin;refine Lib.wpList_append_own_string _ rfl (.tmp 20) (.tmp 22) 56 9 rfl B 5 ib hub hust HIB.out hb0 hb1 hb2 _ l1'.length _ rfl H52.out x.text rfl (by unfold maxLen;omega) (by omega) Bd ?_;intro v' w9 hown hgr hnil)
 obtain ⟨ao9,cap9,rfl,-,-⟩:=wown_form hown
 obtain ⟨k9,st9,fr9⟩:=ST.out w9 _ hown hgr
 have k19:=(heap_setCell_other w9 ⟨g,0,none⟩ p1 (.slice ao9 (l1'.length+x.text.size) cap9) hne1).symm.trans (fr9.2 p1 _ hne1 K1d.out twnu)
 have k29:=(heap_setCell_other w9 ⟨g,0,none⟩ p2 (.slice ao9 (l1'.length+x.text.size) cap9) hne2).symm.trans (fr9.2 p2 _ hne2 K2d.out tnnu)
 have K16:=Hh (fr9.2 p1 _ hne1 K1d.out twnu)
 have K26:=Hh (fr9.2 p2 _ hne2 K2d.out tnnu)
 have ST6:=Hh st9
 have FR6:=Hh fr9
 refine Seg.mk ⟨⟨⟨cell_blk k19 rfl,cell_blk k9 rfl⟩,six_of k29⟩,?_⟩
 have c9:w9.cell? ⟨g,0,none⟩=some (.slice ao5 l1'.length cap5):=cell_blk k9 rfl
 have f9:w9.frozen? ⟨g,0,none⟩=false:=free_blk k9
 clear hown hgr hnil k9 st9 fr9 k19 k29 ST H52 K1d K2d
 refine ask_late _ rfl trivial ?_;go_wp2_with fail;refine Seg.mk ?_
 refine take_any _ ?_ rfl rfl ?_ (fun K hK=>?_);rotate_left;(intro w0;go_simp;(try rfl));(go_simp;refine hK _ ?_;clear hK K)
 refine ask_last _ rfl trivial ?_
 go_upto_region 3 with fail
 generalize w9.setCell ⟨g,0,none⟩ (.slice ao9 (l1'.length+x.text.size) cap9)=w6 at K16 K26 ST6 FR6 ⊢
 obtain ⟨l2',hl2'⟩:∃t,t=l1'++x.text.data.toList:=⟨_,rfl⟩
 rw [←hl2'] at ST6
 have hl2n:l2'.length≤131081:=by rw [hl2',Lg,show x.text.data.toList.length=x.text.size by rw [Array.length_toList];rfl];omega
 rw [HL1.out] at hl2'
 have HL2:=Hh hl2'
 have hfr6:WFr 5 g w w6:=FR2.out.trans ((WFr.of_below HBB.out (by have:=HBB.out;have:=lt_of_block K2.out;omega)).trans (FR5.out.trans ((WFr.of_below HBB2.out (by have:=lt_of_block K25.out;omega)).trans FR6.out)))
 have HFR6:=Hh hfr6
 clear hl2' c9 f9 hfr6
 have ck6:=six_of K26.out
 -- THE PARTS
 go_wp2_with (go_at_call 104;(with_reducible refine (cparts_any _).mono ?_);rintro e w7 ⟨rfl,rfl⟩)
 have b67:=(Br w6.heap.size w6).alloc (o:=.cells #[.int .i64 x.kind,.bool x.bool,.int .i64 x.num,.string x.text,.slice a1 l1 c1,.slice a2 l2 c2] 30) (Lr _)
 have k7:=Hn w6 (.cells #[.int .i64 x.kind,.bool x.bool,.int .i64 x.num,.string x.text,.slice a1 l1 c1,.slice a2 l2 c2] 30)
 have hg6:g<w6.heap.size:=ST6.out.lt
 have st7:=ST6.out.below b67
 have hfr7:WFr 5 g w (w6.alloc (.cells #[.int .i64 x.kind,.bool x.bool,.int .i64 x.num,.string x.text,.slice a1 l1 c1,.slice a2 l2 c2] 30)):=HFR6.out.trans (WFr.of_below b67 (Nat.le_of_lt hg6))
 have k17:=(b67.block _ (lt_of_block K16.out)).trans K16.out
 have hg7:g<(w6.alloc (.cells #[.int .i64 x.kind,.bool x.bool,.int .i64 x.num,.string x.text,.slice a1 l1 c1,.slice a2 l2 c2] 30)).heap.size:=Ll hg6 b67.size
 have hBw:B≤(w6.alloc (.cells #[.int .i64 x.kind,.bool x.bool,.int .i64 x.num,.string x.text,.slice a1 l1 c1,.slice a2 l2 c2] 30)).heap.size:=Nat.le_trans Bd (Nat.le_trans FR6.out.1.size b67.size)
 obtain ⟨b7,hb7⟩:∃b,b=w6.heap.size:=⟨_,rfl⟩
 rw [←hb7] at k7 ⊢
 have hb7g:b7 ≠ g:=by omega
 generalize w6.alloc (.cells #[.int .i64 x.kind,.bool x.bool,.int .i64 x.num,.string x.text,.slice a1 l1 c1,.slice a2 l2 c2] 30)=w7 at k7 st7 hfr7 k17 hg7 hBw ⊢
 clear hb7 b67 hg6 ck6
 obtain ⟨h2,hS,hv,hn⟩:=H.out
 have h7:NodeIn (D+1) S w7 [.int .i64 x.kind,.bool x.bool,.int .i64 x.num,.string x.text,.slice a1 l1 c1,.slice a2 l2 c2] x:=h2.same fun b hb=>by
  have h2w:w2.heap[b]?=w.heap[b]?:=FR2.out.1.block b (hS b hb)
  rw [hfr7.1.block b (hS b hb),h2w]
 have HBW:Hid (B≤w7.heap.size∧w.heap.size≤w7.heap.size):=Hh ⟨hBw,hfr7.1.size⟩
 refine wpIn_wide (n:=10).1 ?_
 refine wpIn_rangeFunc_ownH rfl (by decide) (gf:=126) (lb:=#[.pointer (some ⟨b7,0,none⟩)]) rfl trivial (enters_of Tryz.func126 (by kernel_rfl) rfl)
  (parts1_stops (D:=D) (d:=d) (S:=S) w7 hS hb7g k7 h7 hv hn hg7 9 (by decide)) KpW.trans (kpW_b (Nat.le_of_lt hg7)) (Br _ _) (fun _=>rfl)
  (fun pre W=>∃l',WScC B W g l'∧Out l2' ((ndsOf pre).flatMap (writeC d)) l'∧l'.length≤140000∧WFr 5 g w7 W)
  (fun c pre W=>c=.ret∧∃l',WScC B W g l'∧Out l2' ((ndsOf pre).flatMap (writeC d)) l'∧65536<l'.length∧l'.length≤140000∧WFr 5 g w7 W)
  (fun s W W' row hs hg hr=>by
   obtain ⟨l',q1,q2,q3,q4⟩:=hs
   exact ⟨l',wsc_own q1 hg (fun r e=>(hr r e).2),q2,q3,wfr_own q4 (Lr _) hg7 hg (fun r e=>(hr r e).1) q4.1.size⟩)
  (fun c s W W' row hs hg hr=>by
   obtain ⟨hc,l',q1,q2,q3,q4,q5⟩:=hs
   exact ⟨hc,l',wsc_own q1 hg (fun r e=>(hr r e).2),q2,q3,q4,wfr_own q5 (Lr _) hg7 hg (fun r e=>(hr r e).1) q5.1.size⟩)
  ⟨l2',st7,.inl (by simp [ndsOf]),by omega,WFr.refl _ _ _⟩
  (fun p a' W=>∃Bx,Bx ≠ g∧W.heap[Bx]?=some (.cells p.1.1.toArray 30 (0,0))∧a'={ tmps:=#[.pointer (some ⟨g,0,none⟩),.agg #[.int .i64 x.kind,.bool x.bool,.int .i64 x.num,.string x.text,.slice a1 l1 c1,.slice a2 l2 c2],.pointer (some ⟨p1,0,none⟩),.pointer (some ⟨p2,0,none⟩),.pointer (some ⟨Bx,0,none⟩),.pointer (some ⟨g,0,none⟩),.pointer (some ⟨g,0,none⟩),.pointer (some ⟨g,0,none⟩),.pointer (some ⟨g,0,none⟩),.slice ao l.length cap,.agg #[.int .i64 x.kind,.bool x.bool,.int .i64 x.num,.string x.text,.slice a1 l1 c1,.slice a2 l2 c2],.agg #[.int .i64 zm,.int .u64 zc],.string hd,.slice ao8 (l.length+hd.size) cap8,.pointer (some ⟨g,0,none⟩),.pointer (some ⟨g,0,none⟩),.pointer (some ⟨g,0,none⟩),.pointer (some ⟨g,0,none⟩),.pointer (some ⟨g,0,none⟩),.pointer (some ⟨g,0,none⟩),.slice ao5 l1'.length cap5,.pointer (some ⟨p2,3,none⟩),.string x.text,.slice ao9 (l1'.length+x.text.size) cap9,.pointer (some ⟨g,0,none⟩),.pointer (some ⟨g,0,none⟩),.agg #[.int .i64 x.kind,.bool x.bool,.int .i64 x.num,.string x.text,.slice a1 l1 c1,.slice a2 l2 c2],.func (.func 126) #[] #[.pointer (some ⟨b7,0,none⟩)],.agg p.1.1.toArray,undef,undef,undef,undef,undef],defers:=[] })
  (fun p a' _ W W' row hs hg hr=>by
   obtain ⟨Bx,q1,q2,q3⟩:=hs
   refine ⟨Bx,q1,(hg.block Bx (lt_of_block q2) fun e=>?_).trans q2,q3⟩
   obtain ⟨-,o,ho,hc⟩:=hr Bx e.symm
   rw [q2] at ho
   cases ho
   cases hc)
  ?assign ?body ?done ?stop
 case assign=>
  rintro lp pre ⟨⟨cs,y⟩,hy⟩ W K ⟨l',q1,q2,q3,q4⟩ hK
  dsimp only at hy
  obtain ⟨a3,l3,c3,a4,l4,c4,rfl⟩:=hy.1.slices
  gi_wp2
  have bA:=(Br W.heap.size W).alloc (o:=.cells #[.int .i64 y.kind,.bool y.bool,.int .i64 y.num,.string y.text,.slice a3 l3 c3,.slice a4 l4 c4] 30) (Lr _)
  have hgW:=q1.lt
  have fA:=WFr.of_below (TB:=5) bA (Nat.le_of_lt hgW)
  exact hK _ _ (keeps_of_wfr fA (Nat.le_of_lt hgW) hg7) (KpW.of fA) ⟨l',q1.below bA,q2,q3,q4.trans fA⟩ ⟨W.heap.size,by omega,Hn W _,rfl⟩
 case body=>
  rintro lp pre ⟨⟨cs,y⟩,hy⟩ a' W hlp ⟨r,hr⟩ ⟨l',q1,q2,q3,q4⟩ ⟨Bx,hBx,hkx,rfl⟩ hlt
  dsimp only at hy
  obtain ⟨a3,l3,c3,a4,l4,c4,rfl⟩:=hy.1.slices
  have hkW:=q4.2 p1 _ hne1 k17 twnu
  have cp1:W.cell? ⟨p1,0,none⟩=some (.pointer (some ⟨g,0,none⟩)):=cell_blk hkW rfl
  have cbx:=six_of hkx
  have hgW:=q1.lt
  have EX:=Hh (cexc_any W q1)
  have h1':1≤10 - 1 - 1:=by decide
  by_cases hov:65536<l'.length
  ·rw [decide_eq_true hov] at EX
   have Q4:=Hh q4
   have Q1:=Hh q1
   have Q2:=Hh q2
   clear q1 q2 q4 hkW
   gi_wp2_with (refine ⟨trivial,?_⟩;gi_at_call 69;refine (CallsIn.inRound lp (callsIn_wide.2 EX.out)).mono ?_;rintro e W2 ⟨rfl,hww⟩;(replace hww:=hww.symm);subst hww)
   exact ⟨KeepsFrom.refl _ _,rfl,l',Q1.out,Q2.out.cut hov (flat_prefix ⟨[y],by rw [ndsOf_snoc]⟩),hov,q3,Q4.out⟩
  ·rw [decide_eq_false hov] at EX
   have hyW:NodeIn D S W [.int .i64 y.kind,.bool y.bool,.int .i64 y.num,.string y.text,.slice a3 l3 c3,.slice a4 l4 c4] y:=hy.1.same fun b hb=>q4.1.block b (hS b hb)
   have HN':=Hh (HIH.out D S _ y W B g l' q1 (Nat.le_trans HBW.out.1 q4.1.size) (by omega) hyW hS hy.2.1 hy.2.2)
   have Q4:=Hh q4
   have Q2:=Hh q2
   have HGW:=Hh hgW
   clear q1 q2 q4 hkW hyW
   gi_wp2_with (first
    | (refine ⟨trivial,?_⟩;gi_at_call 69;refine (CallsIn.inRound lp (callsIn_wide.2 EX.out)).mono ?_;rintro e W2 ⟨rfl,hww⟩;(replace hww:=hww.symm);subst hww)
    | (refine ⟨trivial,?_⟩;gi_at_call 68;refine (CallsIn.inRound lp (callsIn_wide.2 HN'.out)).mono ?_;rintro e W3 ⟨rfl,l3',u1,u2,u3,u4⟩;(have U1:=Hh u1);(have U2:=Hh u2);(have U4:=Hh u4);clear u1 u2 u4))
   exact ⟨keeps_of_wfr U4.out (Nat.le_of_lt HGW.out) hg7,KpW.of U4.out,l3',U1.out,by rw [ndsOf_snoc,List.flatMap_append];have:=Q2.out.more hov U2.out;simpa using this,u3,Q4.out.trans U4.out⟩
 case done=>
  rintro DD xs W hD hxs ⟨l',q1,q2,q3,q4⟩ hK
  have hgr:=grownBy_putObj' W DD (.deferred none)
  have hrow:∀r,some DD=some r→∃o:Obj,W.heap[r]?=some o∧o.isCells=false:=fun r e=>by cases e;exact ⟨_,hK,rfl⟩
  have st9:=wsc_own q1 hgr hrow
  have fr9:=wfr_own (hfr7.trans q4) HBW.out.2 hg7 hgr (fun r e=>by cases e;exact hD) q4.1.size
  have ho9:Out l (writeC (d+1) x) l':=by
   rw [writeC_parts hv,←hxs]
   rw [HL2.out] at q2
   rw [List.append_assoc] at q2
   exact out_pre q2
  have F:=Hh (show ∃l',WScC B (W.putObj DD (.deferred none)) g l'∧Out l (writeC (d+1) x) l'∧l'.length≤140000∧WFr 5 g w (W.putObj DD (.deferred none)) from ⟨l',st9,ho9,q3,fr9⟩)
  clear q1 q2 q4 hgr hrow st9 fr9 ho9 hxs
  show bodyPostM _ _ _ _ _ Exit.normal _ _
  refine ⟨by simp,.inl ⟨_,_,rfl,run_takeDeferred hK,?_⟩⟩
  exact ⟨_,results_none rfl _ _ _,rfl,F.out⟩
 case stop=>
  rintro DD c pre W hD hpre ⟨rfl,l',q1,q2,q3,q4,q5⟩ hK
  have hgr:=grownBy_putObj' W DD (.deferred none)
  have hrow:∀r,some DD=some r→∃o:Obj,W.heap[r]?=some o∧o.isCells=false:=fun r e=>by cases e;exact ⟨_,hK,rfl⟩
  have st9:=wsc_own q1 hgr hrow
  have fr9:=wfr_own (hfr7.trans q5) HBW.out.2 hg7 hgr (fun r e=>by cases e;exact hD) q5.1.size
  have ho9:Out l (writeC (d+1) x) l':=by
   rw [writeC_parts hv]
   have q6:=q2.cut q3 (flat_prefix (f:=writeC d) hpre)
   rw [HL2.out] at q6
   rw [List.append_assoc] at q6
   exact out_pre q6
  have F:=Hh (show ∃l',WScC B (W.putObj DD (.deferred none)) g l'∧Out l (writeC (d+1) x) l'∧l'.length≤140000∧WFr 5 g w (W.putObj DD (.deferred none)) from ⟨l',st9,ho9,q4,fr9⟩)
  clear q1 q2 q5 hgr hrow st9 fr9 ho9 hpre
  refine wpIn_ret ?_
  show bodyPostM _ _ _ _ _ Exit.ret _ _
  refine ⟨by simp,.inl ⟨_,_,rfl,run_takeDeferred hK,?_⟩⟩
  exact ⟨_,results_none rfl _ _ _,rfl,F.out⟩
theorem wnode_any:∀d,WNodeAt d
 | 0=>fun D S cs x w B g l _ _ _ _ _ hv=>by cases hv
 | d+1=>wnode_step (wnode_any d)
end Go.Proofs.YtdppdonaojdceaaGreatDoor
namespace Go.Proofs.YtdppdonaojdceaaGreatDoor
open Go Go.ChangeShapes Go.WideShapes Go.ChangeAt Go.RowKit
theorem cenc_any {D:Nat} {S:Nat→Prop} (cs:List Value) (x:ND) (w:World) (h:NodeIn D S w cs x) (hS:∀b,S b→b<w.heap.size) (hl:lowV D x) (hw:validN 8 x=true→numsB 8 x=true) (hT:Utab w):Calls Tryz.prog 42 #[.agg cs.toArray] w (CEncPost x w):=by
 obtain ⟨a1,l1,c1,a2,l2,c2,rfl⟩:=h.slices
 have b1:=(Br w.heap.size w).alloc (o:=.cells #[.int .i64 x.kind,.bool x.bool,.int .i64 x.num,.string x.text,.slice a1 l1 c1,.slice a2 l2 c2] 30) (Lr _)
 have hr1:=Hn w (.cells #[.int .i64 x.kind,.bool x.bool,.int .i64 x.num,.string x.text,.slice a1 l1 c1,.slice a2 l2 c2] 30)
 obtain ⟨w1,hw1⟩:∃W,W=w.alloc (.cells #[.int .i64 x.kind,.bool x.bool,.int .i64 x.num,.string x.text,.slice a1 l1 c1,.slice a2 l2 c2] 30):=⟨_,rfl⟩
 rw [←hw1] at b1 hr1
 have ck:=six_of hr1
 have V:=Hh (isvalidV_any _ x w1 (h.same fun b hb=>b1.block b (hS b hb)) (fun b hb=>Ll (hS b hb) b1.size) hl (hT.below b1))
 have B1:=Hh b1
 have R1:=Hh hr1
 have HN:=Hh h
 have HS:=Hh hS
 have HW:=Hh hw
 clear h hS hl hw hT b1 hr1
 cases hv:validN 8 x with
 | false=>
  rw [hv] at V
  obtain ⟨e1,e2⟩:=cse_bad hv
  have HE:=Hh (Ai e1 e2)
  clear hv e1 e2
  go_enter Tryz.func42,Tryz.ntmps42
  go_upto_region 1 with fail
  rw [←hw1]
  clear hw1
  go_wp2_with (go_at_call 31;(with_reducible refine (V.out).mono ?_);rintro e w2 ⟨rfl,hb2⟩)
  go_ret2
  exact ⟨by rw [HE.out.1,HE.out.2];rfl,B1.out.trans (hb2.mono B1.out.size)⟩
 | true=>
  rw [hv] at V
  have hnu:=HW.out hv
  have HV:=Hh hv
  have HNU:=Hh hnu
  clear hv hnu
  go_enter Tryz.func42,Tryz.ntmps42
  go_upto_region 1 with fail
  rw [←hw1]
  clear hw1
  go_upto_region 4 with ((with_reducible refine (V.out).mono ?_);rintro e w2 ⟨rfl,hb2⟩)
  have b3:=(Br w2.heap.size w2).alloc (o:=.cells #[.slice none 0 0] 92) (Lr _)
  have st3:=WSc.fresh (TW:=92) (TB:=5) w2
  have hB2:=B1.out.trans (hb2.mono B1.out.size)
  have hB3:=hB2.trans (b3.mono hB2.size)
  have hz3:(w2.alloc (.cells #[.slice none 0 0] 92)).heap.size=w2.heap.size+1:=by simp
  have hr3:=(b3.block _ (Ll (lt_of_block R1.out) hb2.size)).trans ((hb2.block _ (lt_of_block R1.out)).trans R1.out)
  generalize w2.alloc (.cells #[.slice none 0 0] 92)=w3 at b3 st3 hB3 hz3 hr3 ⊢
  obtain ⟨g,hg⟩:∃g,g=w2.heap.size:=⟨_,rfl⟩
  have hwg:w.heap.size≤g:=by rw [hg];exact hB2.size
  have ck3:=six_of hr3
  have WN:=Hh (wnode_any 8 D S _ x w3 (g+1) g [] (by rw [hg];exact st3) (by omega) (Nat.zero_le _) (HN.out.same fun b hb=>hB3.block b (HS.out b hb)) (fun b hb=>Ll (HS.out b hb) hwg) HV.out HNU.out)
  rw [←hg]
  have HB3:=Hh hB3
  clear b3 st3 hz3 hr3 hg hB2 hB3 hb2 ck
  go_upto_region 5 with ((with_reducible refine (WN.out).mono ?_);rintro e w5 ⟨rfl,l5,hst5,hout5,hlen5,hfr5⟩)
  have EX:=Hh (cexc_any w5 hst5)
  have hB5:=HB3.out.trans (hfr5.1.mono hwg)
  have HB5:=Hh hB5
  have HO5:=Hh hout5
  by_cases hov:65536<l5.length
  ·obtain ⟨e1,e2⟩:=cse_long HV.out (by have:=hout5.over hov;simpa using this)
   have HE:=Hh (Ai e1 e2)
   rw [decide_eq_true hov] at EX
   clear hst5 hfr5 e1 e2 hB5 hout5 hov
   go_wp2_with (go_at_call 69;(with_reducible refine (EX.out).mono ?_);rintro e w6 ⟨rfl,hww⟩;(replace hww:=hww.symm);subst hww)
   go_ret2
   exact ⟨by rw [HE.out.1,HE.out.2];rfl,HB5.out⟩
  ·have hfit:=hout5.fits hov
   rw [List.nil_append] at hfit
   obtain ⟨e1,e2⟩:=cse_good HV.out (by rw [←hfit];exact hov)
   rw [←hfit] at e1
   have HE:=Hh (Ai e1 e2)
   rw [decide_eq_false hov] at EX
   obtain ⟨v5,k1,k2,-⟩:=hst5
   have c5:w5.cell? ⟨g,0,none⟩=some v5:=cell_blk k1 rfl
   obtain ⟨ao,cap,rfl,-,-⟩:=wown_form k2
   have hcv:=conv_owns (P:=Tryz.prog) w5 56 9 5 (g+1) l5.length _ l5 k2 Tryz.underlying56 Tryz.underlying5 Tryz.underlying9
   clear k1 k2 hfr5 e1 e2 hfit hB5 hout5 hov
   go_wp2_with (go_at_call 69;(with_reducible refine (EX.out).mono ?_);rintro e w6 ⟨rfl,hww⟩;(replace hww:=hww.symm);subst hww)
   go_ret2
   exact ⟨by rw [HE.out.1,HE.out.2];rfl,HB5.out⟩
theorem cpdec_none {s:ByteArray} {w wx:World} (hb:Below w.heap.size w wx) (hV:CDecIs s nd0 4) :
 CDecPost s w (.returned (.tuple #[.agg #[.int .i64 0,.bool false,.int .i64 0,.string ⟨#[]⟩,.slice none 0 0,.slice none 0 0],.int .i64 4])) (set6 wx w.heap.size (.int .i64 0) (.bool false) (.int .i64 0) (.string ⟨#[]⟩) (.slice none 0 0) (.slice none 0 0)):=by
 have hgs:=grown_set6 wx w.heap.size (.int .i64 0) (.bool false) (.int .i64 0) (.string ⟨#[]⟩) (.slice none 0 0) (.slice none 0 0)
 exact ⟨[.int .i64 0,.bool false,.int .i64 0,.string ⟨#[]⟩,.slice none 0 0,.slice none 0 0],nd0,4,rfl,(node_leaf _ _ 0 false 0 ⟨#[]⟩ (by decide)).deeper (by decide),hb.grown hgs hb.size (fun k hk=>by cases hk;exact Lr _),hV⟩
theorem cdec_any (s:ByteArray) (w:World) (hT:Utab w):Calls Tryz.prog 43 #[.string s] w (CDecPost s w):=by
 have b0:=(Br w.heap.size w).alloc (o:=.cells #[.int .i64 0,.bool false,.int .i64 0,.string ⟨#[]⟩,.slice none 0 0,.slice none 0 0] 30) (Lr _)
 have hr0:=Hn w (.cells #[.int .i64 0,.bool false,.int .i64 0,.string ⟨#[]⟩,.slice none 0 0,.slice none 0 0] 30)
 have hz0:w.heap.size<(w.alloc (.cells #[.int .i64 0,.bool false,.int .i64 0,.string ⟨#[]⟩,.slice none 0 0,.slice none 0 0] 30)).heap.size:=by simp
 by_cases hl:65536<s.size
 ·have hl':(65536:Int)<(s.size:Int):=by omega
  have HV:Hid (CDecIs s nd0 4):=Hh (.inr ⟨rfl,rfl,fun y _ _ h=>absurd h (by omega)⟩)
  have B0:=Hh b0
  have HR:=Hh hr0
  have f1:=free_six hr0
  have c1:=six_of hr0
  clear hl b0 hr0
  go_enter Tryz.func43,Tryz.ntmps43
  go_upto_region 1 with fail
  generalize w.alloc (.cells #[.int .i64 0,.bool false,.int .i64 0,.string ⟨#[]⟩,.slice none 0 0,.slice none 0 0] 30)=w0 at B0 HR f1 c1 ⊢
  go_wp2
  refine ret_node (v:=.int .i64 4) HR.out Tryz.results43 rfl rfl rfl ?_
  exact cpdec_none B0.out HV.out
 ·have hl':¬ (65536:Int)<(s.size:Int):=by omega
  have hsl:s.data.toList.length=s.size:=by rw [Array.length_toList];rfl
  have HT:=Hh hT
  have HL:=Hh hl
  clear hT hl
  go_enter Tryz.func43,Tryz.ntmps43
  go_upto_region 1 with fail
  obtain ⟨w0,hw0⟩:∃W,W=w.alloc (.cells #[.int .i64 0,.bool false,.int .i64 0,.string ⟨#[]⟩,.slice none 0 0,.slice none 0 0] 30):=⟨_,rfl⟩
  rw [←hw0] at b0 hr0 hz0
  rw [←hw0]
  clear hw0
  have HR:=Hh hr0
  have B0:=Hh b0
  have WD:=Hh (fun wx=>simple_any wx)
  clear hr0 b0
  go_upto_region 4 with ((with_reducible refine (WD.out _).mono ?_);rintro e2 w2 ⟨rfl,hw2,hb2⟩)
  have hb3:=(Br w2.heap.size w2).alloc (o:=.cells #[.string s,.map (some w0.heap.size)] 98) (Lr _)
  have hg3:=Hn w2 (.cells #[.string s,.map (some w0.heap.size)] 98)
  obtain ⟨w3,hw3⟩:∃W,W=w2.alloc (.cells #[.string s,.map (some w0.heap.size)] 98):=⟨_,rfl⟩
  rw [←hw3] at hb3 hg3
  rw [←hw3]
  clear hw3
  have hp3:PrC w3 w2.heap.size w0.heap.size s.data.toList:=⟨by rw [bC_of];exact hg3,hw2.same (hb3.block _ hw2.lt),hw2.lt⟩
  have hB3:=B0.out.trans ((hb2.trans (hb3.mono hb2.size)).mono B0.out.size)
  have hgw:w.heap.size≤w2.heap.size:=Nat.le_trans B0.out.size hb2.size
  have hg0w:w0.heap.size≤w3.heap.size:=Nat.le_trans hb2.size hb3.size
  have hr3:=((hb2.trans (hb3.mono hb2.size)).block _ (lt_of_block HR.out)).trans HR.out
  have ND':Hid (Calls Tryz.prog 71 #[.pointer (some ⟨w2.heap.size,0,none⟩),.int .i64 8] w3 (CnPost (CIr 8 s.data.toList) 8 w2.heap.size w0.heap.size s.data.toList w3)):=Hh (cpnode_any 8 (by decide) w2.heap.size w0.heap.size s.data.toList w3 hp3 (by have:=HL.out;omega))
  have HB3:=Hh hB3
  have HR3:=Hh hr3
  have hgr:w.heap.size ≠ w2.heap.size:=by have:=hb2.size;omega
  generalize hgx:w2.heap.size=gx at ND' hgw hgr ⊢
  clear hgx hp3 hw2 hb2 hb3 hg3 hB3 hr3 WD B0 HR
  go_upto_region 5 with ((with_reducible refine (ND'.out).mono ?_);rintro e5 w5 ⟨cs,x,ok,r',rfl,hnode,hp5,hg5,hl5,hlt5,hf5,hv5⟩;go_loud ((obtain ⟨a1,l1,c1,a2,l2,c2,hcs⟩:=hnode.slices);subst hcs))
  have hv8:s.size≤65536→∀y,validN 8 y=true→numsB 8 y=true→writeC 8 y=s.data.toList→ok=true∧x=y:=fun _ y h1 h2 h3=>by
   have:=hv5 y [] ⟨h1,h2,by rw [List.append_nil,h3]⟩
   exact ⟨this.1,this.2.1⟩
  have hB5:Below w.heap.size w w5:=HB3.out.grown hg5 HB3.out.size (fun k hk=>by cases hk;exact hgw)
  have hr5:=keepG hg5 hgr HR3.out
  have b6:=(Br w5.heap.size w5).alloc (o:=.cells #[.int .i64 x.kind,.bool x.bool,.int .i64 x.num,.string x.text,.slice a1 l1 c1,.slice a2 l2 c2] 30) (Lr _)
  have hn6:=Hn w5 (.cells #[.int .i64 x.kind,.bool x.bool,.int .i64 x.num,.string x.text,.slice a1 l1 c1,.slice a2 l2 c2] 30)
  have hnd6:=hnode.same fun b hb=>b6.block b hb.2
  have hB6:=hB5.trans (b6.mono hB5.size)
  have hr6:=(b6.block _ (lt_of_block hr5)).trans hr5
  have hz6:w5.heap.size<(w5.alloc (.cells #[.int .i64 x.kind,.bool x.bool,.int .i64 x.num,.string x.text,.slice a1 l1 c1,.slice a2 l2 c2] 30)).heap.size:=by simp
  have hne5:w.heap.size ≠ w5.heap.size:=by have:=lt_of_block hr5;omega
  obtain ⟨w6,hw6⟩:∃W,W=w5.alloc (.cells #[.int .i64 x.kind,.bool x.bool,.int .i64 x.num,.string x.text,.slice a1 l1 c1,.slice a2 l2 c2] 30):=⟨_,rfl⟩
  rw [←hw6] at b6 hn6 hnd6 hB6 hr6 hz6
  rw [←hw6]
  have hz3:w.heap.size≤w3.heap.size:=HB3.out.size
  have HV8:=Hh hv8
  have HB6:=Hh hB6
  have HN6:=Hh hnd6
  have HR6:=Hh hr6
  have HZ6:=Hh (Ai hz6 hz3)
  have hnum8:numsB 8 x=true:=cnumsB_down (by decide) hf5.2
  have hlow9:lowV 9 x:=hf5.1
  have EN:=Hh (cenc_any _ x w6 hnd6 (fun b hb=>Nat.lt_trans hb.2 hz6) hlow9 (fun _=>hnum8) (HT.out.below hB6))
  have HN8:=Hh hnum8
  clear hw6 hv8 hv5 hB5 hr5 b6 hnd6 hB6 hr6 hz6 hnode hp5 hg5 hf5 hl5 hlt5 HB3 HR3 ND' hnum8 hlow9 HT
  cases ok with
  | false=>
   have HV:Hid (CDecIs s nd0 4):=Hh (.inr ⟨rfl,rfl,fun y h1 h2 h3 h4=>by have:=(HV8.out h3 y h1 h2 h4).1;cases this⟩)
   have f1:=free_six HR6.out
   have cz1:=six_of HR6.out
   go_wp2
   refine ret_node (v:=.int .i64 4) HR6.out Tryz.results43 rfl rfl rfl ?_
   exact cpdec_none HB6.out HV.out
  | true=>
   have cn:=six_of hn6
   have HN66:=Hh hn6
   clear hn6
   go_upto_region 8 with ((with_reducible refine (EN.out).mono ?_);rintro e7 w7 ⟨rfl,hb7⟩)
   have hB7:=HB6.out.trans (hb7.mono HB6.out.size)
   have hr7:=(hb7.block _ (lt_of_block HR6.out)).trans HR6.out
   have hn7:=(hb7.block _ (lt_of_block HN66.out)).trans HN66.out
   have hnd7:=HN6.out.same fun b hb=>hb7.block b (Nat.lt_trans hb.2 HZ6.out.1)
   have HB7:=Hh hB7
   have HR7:=Hh hr7
   have HND7:=Hh (Ai hnd7 hb7.size)
   clear hB7 hr7 hnd7 hb7 EN HN66 cn
   by_cases hbad:csE x ≠ 0∨csS x ≠ s
   ·have HV:Hid (CDecIs s nd0 4):=Hh (.inr ⟨rfl,rfl,fun y h1 h2 h3 h4=>by
     obtain ⟨-,rfl⟩:=HV8.out h3 y h1 h2 h4
     have hlen:¬65536<(writeC 8 x).length:=by rw [h4,hsl];omega
     obtain ⟨g1,g2⟩:=cse_good h1 hlen
     rcases hbad with h | h
     ·exact h g2
     ·apply h;rw [g1,h4,bC_of]⟩)
    clear hn7
    by_cases hE0:csE x=0
    ·have hS0:csS x ≠ s:=hbad.resolve_left (fun h=>h hE0)
     have hSb:((csS x).toList == s.toList)=false:=by
      rw [Lib.toList_data,Lib.toList_data]
      exact beq_eq_false_iff_ne.2 fun h=>hS0 (by rw [←bC_of (csS x),h,bC_of])
     have hEb:(csE x != 0)=false:=by simpa using hE0
     clear hbad
     rw [hE0]
     have f1:=free_six HR7.out
     have cz1:=six_of HR7.out
     go_wp2
     refine ret_node (v:=.int .i64 4) HR7.out Tryz.results43 rfl rfl rfl ?_
     exact cpdec_none HB7.out HV.out
    ·have hEb:(csE x != 0)=true:=by simpa using hE0
     clear hbad
     have f1:=free_six HR7.out
     have cz1:=six_of HR7.out
     go_wp2
     refine ret_node (v:=.int .i64 4) HR7.out Tryz.results43 rfl rfl rfl ?_
     exact cpdec_none HB7.out HV.out
   ·have hE0:csE x=0:=Classical.byContradiction fun h=>hbad (.inl h)
    have hS0:csS x=s:=Classical.byContradiction fun h=>hbad (.inr h)
    have HV:Hid (CDecIs s x 0):=Hh (by
     have hv:validN 8 x=true:=by
      cases q:validN 8 x with
      | true=>rfl
      | false=>rw [(cse_bad q).2] at hE0;cases hE0
     have hlen:¬65536<(writeC 8 x).length:=fun q=>by rw [(cse_long hv q).2] at hE0;cases hE0
     have hw:writeC 8 x=s.data.toList:=by rw [←hS0,(cse_good hv hlen).1,bC_data]
     exact .inl ⟨rfl,hv,HN8.out,hw,by rw [hw,hsl] at hlen;omega⟩)
    clear hbad
    rw [hE0,hS0]
    have f1:=free_six HR7.out
    have cz1:=six_of HR7.out
    have cn:=six_of hn7
    go_wp2
    refine ret_node (v:=.int .i64 0) HR7.out Tryz.results43 rfl rfl rfl ?_
    have hgs:=grown_set6 w7 w.heap.size (.int .i64 x.kind) (.bool x.bool) (.int .i64 x.num) (.string x.text) (.slice a1 l1 c1) (.slice a2 l2 c2)
    refine ⟨[.int .i64 x.kind,.bool x.bool,.int .i64 x.num,.string x.text,.slice a1 l1 c1,.slice a2 l2 c2],x,0,rfl,?_,HB7.out.grown hgs HB7.out.size (fun k hk=>by cases hk;exact Lr _),HV.out⟩
    have hz:=HZ6.out
    have hz7:=HND7.out.2
    have hr:=lt_of_block HR7.out
    exact (HND7.out.1.same fun b hb=>hgs.block b (by omega) (by intro e;have:=Option.some.inj e;omega)).mono fun b hb=>⟨by omega,Ll (by omega) hgs.size⟩
end Go.Proofs.YtdppdonaojdceaaGreatDoor