/- The writer of the second serialisation: node, at every depth. -/
import Derived.Test.YtcklddldejejcaaGreatDoorCwp
set_option linter.unusedVariables false
set_option linter.unusedSimpArgs false
set_option maxHeartbeats 12800000
set_option maxRecDepth 100000
namespace Go.Proofs.YtcklddldejejcaaGreatDoor
open Go Go.ChangeShapes Go.WideShapes Go.ChangeAt Go.RowKit Go.Shelf
attribute [local go_sem] Oper.semAt_some
theorem twnu {cs:Array Value}:∀ (ds:Array Value) (fz:Nat × Nat),Obj.cells cs 245 (0,0) ≠ Obj.cells ds 5 fz:=fun ds fz e=>by simp at e
theorem tnnu {cs:Array Value}:∀ (ds:Array Value) (fz:Nat × Nat),Obj.cells cs 28 (0,0) ≠ Obj.cells ds 5 fz:=fun ds fz e=>by simp at e
def WNPost (B g:Nat) (l T:List UInt8) (w:World) (e:Ending) (w':World):Prop:=e=.returned (.tuple #[])∧∃l',WScC B w' g l'∧Out l T l'∧l'.length≤140000∧WFr 5 g w w'
def WNodeAt (d:Nat):Prop:=∀ (D:Nat) (S:Nat→Prop) (cs:List Value) (x:ND) (w:World) (B g:Nat) (l:List UInt8),WScC B w g l→B≤w.heap.size→l.length≤65536→NodeIn D S w cs x→(∀b,S b→b<g)→validN d x=true→numsB d x=true →
 Calls Tryz.prog 198 #[.pointer (some ⟨g,0,none⟩),.agg cs.toArray] w (WNPost B g l (writeC d x) w)
theorem wnode_step {d:Nat} (IH:WNodeAt d):WNodeAt (d+1):=by
 intro D S cs x w B g l hst hB hl h hS hv hn
 obtain ⟨a1,l1,c1,a2,l2,c2,rfl⟩:=h.slices
 cases D with
 | zero=>exact h.elim
 | succ D=>
 have hgl:=hst.lt
 obtain ⟨p1,hp1⟩:∃p,p=w.heap.size:=⟨_,rfl⟩
 obtain ⟨p2,hp2⟩:∃p,p=w.heap.size+1:=⟨_,rfl⟩
 have hxt:x.text.size≤65536:=textOk_le (validN_parts hv).2.2.1
 have hcn:=cCnt_lt hv hn
 have hcm:=cMaj_lt x
 have bb:=((Br w.heap.size w).alloc (o:=.cells #[.pointer (some ⟨g,0,none⟩)] 245) (Lr _)).alloc (o:=.cells #[.int .i64 x.kind,.bool x.bool,.int .i64 x.num,.string x.text,.slice a1 l1 c1,.slice a2 l2 c2] 28) (by simp)
 have k1:=((Br (w.heap.size+1) (w.alloc (.cells #[.pointer (some ⟨g,0,none⟩)] 245))).alloc (o:=.cells #[.int .i64 x.kind,.bool x.bool,.int .i64 x.num,.string x.text,.slice a1 l1 c1,.slice a2 l2 c2] 28) (by simp)).block w.heap.size (by omega) |>.trans (Hn w (.cells #[.pointer (some ⟨g,0,none⟩)] 245))
 have k2:=Hn (w.alloc (.cells #[.pointer (some ⟨g,0,none⟩)] 245)) (.cells #[.int .i64 x.kind,.bool x.bool,.int .i64 x.num,.string x.text,.slice a1 l1 c1,.slice a2 l2 c2] 28)
 rw [World.size_alloc] at k2
 rw [←hp1] at k1
 rw [←hp2] at k2
 obtain ⟨w2,hw2⟩:∃W,W=(w.alloc (.cells #[.pointer (some ⟨g,0,none⟩)] 245)).alloc (.cells #[.int .i64 x.kind,.bool x.bool,.int .i64 x.num,.string x.text,.slice a1 l1 c1,.slice a2 l2 c2] 28):=⟨_,rfl⟩
 rw [←hw2] at bb k1 k2
 have hst2:=hst.below bb
 have hfr2:=WFr.of_below (TB:=5) bb (Nat.le_of_lt hgl)
 have hB2:B≤w2.heap.size:=Nat.le_trans hB bb.size
 have h2:NodeIn (D+1) S w2 [.int .i64 x.kind,.bool x.bool,.int .i64 x.num,.string x.text,.slice a1 l1 c1,.slice a2 l2 c2] x:=h.same fun b hb=>bb.block b (Nat.lt_trans (hS b hb) hgl)
 have hne1:p1 ≠ g:=by omega
 have hne2:p2 ≠ g:=by omega
 have HF:=Hh (fun (wx:World) (hb:Below w2.heap.size w2 wx)=>headOf_any _ x wx (h2.same fun b hb'=>hb.block b (Ll (Nat.lt_trans (hS b hb') hgl) bb.size)) hv hn)
 have HTX:=Hh (fun (wx:World)=>phead_any (cMaj x) (cCnt x) wx hcm hcn)
 rw [show headV7 x=.agg #[.int .i64 (cMaj x:Int),.int .u64 (cCnt x:Int)] from rfl] at HF
 obtain ⟨hd,hhd⟩:∃t:ByteArray,t=bC (headL (cMaj x) (cCnt x)):=⟨_,rfl⟩
 rw [←hhd] at HTX
 have hhl:hd.size≤9:=by rw [hhd,bC_size,headL_length];have:=headK_le (cCnt x);omega
 have hhdl:hd.data.toList=headL (cMaj x) (cCnt x):=by rw [hhd,bC_data]
 have HHD:=Hh hhdl
 obtain ⟨zm,hzm⟩:∃z:Int,z=(cMaj x:Int):=⟨_,rfl⟩
 obtain ⟨zc,hzc⟩:∃z:Int,z=(cCnt x:Int):=⟨_,rfl⟩
 rw [←hzm,←hzc] at HF HTX
 have HIH:=Hh IH
 have H:=Hh (Ai h2 (Ai hS (Ai hv hn)))
 have K1:=Hh k1
 have K2:=Hh k2
 have FR2:=Hh hfr2
 have ST2:=Hh hst2
 have HP12:=Hh (Ai hp1 hp2)
 clear IH h h2 hS hv hn hcn hcm k1 k2 hfr2 hst2 hst bb hhd hhdl hzm hzc hB
 obtain ⟨ib,hib,hb0,hb1,hb2⟩:=info_parts Tryz.info5
 have hub:=Tryz.underlying73
 have hust:=Tryz.underlying9
 have HIB:=Hh hib
 clear hib
 refine (callsIn_wide (n:=10)).1 ?_
 refine callsIn_of_wp_marks Tryz.func198 rfl trivial ?_ rfl
 simp only [Tryz.ntmps198,List.size_toArray,List.length_cons,List.length_nil,Nat.reduceAdd,Nat.reduceSub,Array.replicate_succ,Array.replicate_zero,List.push_toArray,List.append_toArray,List.nil_append,List.cons_append]
 refine wpIn_mono (Q:=NoPan _) ?_ NoPan.out
 refine wpIn_wide.2 ?_
 go_upto_region 1 with fail
 rw [←hw2,←hp2,←hp1]
 clear hw2 hp1 hp2
 -- THE HEAD
 have hwd:Below w2.heap.size w2 w2.drew:=(Br _ _).drew
 have std:=ST2.out.below hwd
 obtain ⟨vv,hv1,hv2,hv3⟩:=id ST2.out
 have cs2:(w2.cell? ⟨p1,0,none⟩=some (.pointer (some ⟨g,0,none⟩))∧w2.cell? ⟨g,0,none⟩=some (vv))∧w2.cell? ⟨p2,0,none⟩=some (.int .i64 x.kind)∧w2.cell? ⟨p2,1,none⟩=some (.bool x.bool)∧w2.cell? ⟨p2,2,none⟩=some (.int .i64 x.num)∧w2.cell? ⟨p2,3,none⟩=some (.string x.text)∧w2.cell? ⟨p2,4,none⟩=some (.slice a1 l1 c1)∧w2.cell? ⟨p2,5,none⟩=some (.slice a2 l2 c2):=⟨⟨cell_blk K1.out rfl,cell_blk hv1 rfl⟩,six_of K2.out⟩
 have csd:(w2.drew.cell? ⟨p1,0,none⟩=some (.pointer (some ⟨g,0,none⟩))∧w2.drew.cell? ⟨g,0,none⟩=some (vv))∧w2.drew.cell? ⟨p2,0,none⟩=some (.int .i64 x.kind)∧w2.drew.cell? ⟨p2,1,none⟩=some (.bool x.bool)∧w2.drew.cell? ⟨p2,2,none⟩=some (.int .i64 x.num)∧w2.drew.cell? ⟨p2,3,none⟩=some (.string x.text)∧w2.drew.cell? ⟨p2,4,none⟩=some (.slice a1 l1 c1)∧w2.drew.cell? ⟨p2,5,none⟩=some (.slice a2 l2 c2):=cs2
 have hsz:p1<w2.drew.heap.size∧p2<w2.drew.heap.size∧g<w2.drew.heap.size:=⟨lt_of_block K1.out,lt_of_block K2.out,lt_of_block hv1⟩
 clear hv1 hv2 hv3
 refine wp_region_plan (fun w'=>(w'.cell? ⟨p1,0,none⟩=some (.pointer (some ⟨g,0,none⟩))∧w'.cell? ⟨g,0,none⟩=some (vv))∧w'.cell? ⟨p2,0,none⟩=some (.int .i64 x.kind)∧w'.cell? ⟨p2,1,none⟩=some (.bool x.bool)∧w'.cell? ⟨p2,2,none⟩=some (.int .i64 x.num)∧w'.cell? ⟨p2,3,none⟩=some (.string x.text)∧w'.cell? ⟨p2,4,none⟩=some (.slice a1 l1 c1)∧w'.cell? ⟨p2,5,none⟩=some (.slice a2 l2 c2)) [0,1,4,5] (.take 0 (.take 1 (.take 2 (.take 3 (.take 4 (.take 5 (.ask 6 true (.ask 7 true (.ask 8 true (.ask 9 false (.take 10 (.ask 11 false .stop .stop)) .stop) .stop) .stop) .stop))))))) (by kernel_rfl) (by kernel_rfl) (fun _ d _ _ _ h=>by cases d <;> exact h) cs2 ?_
 clear cs2
 generalize w2.drew=wd at hwd std csd hsz ⊢
 refine take_held _ ?_ rfl rfl (by decide) ?_ (fun K hK=>?_);rotate_left;(intro w0 hw0;obtain ⟨⟨s0,s1⟩,s2,s3,s4,s5,s6,s7⟩:=hw0;go_simp;(try rfl));(go_simp;refine hK _ ?_;clear hK K)
 refine take_held _ ?_ rfl rfl (by decide) ?_ (fun K hK=>?_);rotate_left;(intro w0 hw0;obtain ⟨⟨s0,s1⟩,s2,s3,s4,s5,s6,s7⟩:=hw0;go_simp;(try rfl));(go_simp;refine hK _ ?_;clear hK K)
 refine take_any _ ?_ rfl rfl ?_ (fun K hK=>?_);rotate_left;(intro w0;go_simp;(try rfl));(go_simp;refine hK _ ?_;clear hK K)
 refine take_any _ ?_ rfl rfl ?_ (fun K hK=>?_);rotate_left;(intro w0;go_simp;(try rfl));(go_simp;refine hK _ ?_;clear hK K)
 refine take_held _ ?_ rfl rfl (by decide) ?_ (fun K hK=>?_);rotate_left;(intro w0 hw0;obtain ⟨⟨s0,s1⟩,s2,s3,s4,s5,s6,s7⟩:=hw0;go_simp;(try rfl));(go_simp;refine hK _ ?_;clear hK K)
 refine take_held _ ?_ rfl rfl (by decide) ?_ (fun K hK=>?_);rotate_left;(intro w0 hw0;obtain ⟨⟨s0,s1⟩,s2,s3,s4,s5,s6,s7⟩:=hw0;go_simp;(try rfl));(go_simp;refine hK _ ?_;clear hK K)
 have KC:=Hh (fun (wx:World) (hb:Below wd.heap.size wd wx)=>(show (wx.cell? ⟨p1,0,none⟩=some (.pointer (some ⟨g,0,none⟩))∧wx.cell? ⟨g,0,none⟩=some (vv))∧wx.cell? ⟨p2,0,none⟩=some (.int .i64 x.kind)∧wx.cell? ⟨p2,1,none⟩=some (.bool x.bool)∧wx.cell? ⟨p2,2,none⟩=some (.int .i64 x.num)∧wx.cell? ⟨p2,3,none⟩=some (.string x.text)∧wx.cell? ⟨p2,4,none⟩=some (.slice a1 l1 c1)∧wx.cell? ⟨p2,5,none⟩=some (.slice a2 l2 c2) from ⟨⟨(hb.cell (p:=⟨p1,0,none⟩) hsz.1).trans csd.1.1,(hb.cell (p:=⟨g,0,none⟩) hsz.2.2).trans csd.1.2⟩,(hb.cell (p:=⟨p2,0,none⟩) hsz.2.1).trans csd.2.1,(hb.cell (p:=⟨p2,1,none⟩) hsz.2.1).trans csd.2.2.1,(hb.cell (p:=⟨p2,2,none⟩) hsz.2.1).trans csd.2.2.2.1,(hb.cell (p:=⟨p2,3,none⟩) hsz.2.1).trans csd.2.2.2.2.1,(hb.cell (p:=⟨p2,4,none⟩) hsz.2.1).trans csd.2.2.2.2.2.1,(hb.cell (p:=⟨p2,5,none⟩) hsz.2.1).trans csd.2.2.2.2.2.2⟩))
 have HWD:=Hh hwd
 have STD:=Hh std
 clear csd hsz hwd std
 refine ask_step _ rfl trivial ?_;go_wp2_with (go_at_call 222;(with_reducible refine (HF.out _ HWD.out).mono ?_);rintro e w3 ⟨rfl,hb3⟩);refine Seg.mk ⟨KC.out _ hb3,?_⟩
 have HB3:=Hh hb3
 clear hb3
 refine ask_step _ rfl trivial ?_;go_wp2_with (go_at_call 223;(with_reducible refine (HTX.out _).mono ?_);rintro e w4 ⟨rfl,hb4⟩)
 have hb34:=HB3.out.trans (hb4.mono HB3.out.size)
 refine Seg.mk ⟨KC.out _ hb34,?_⟩
 have st4:=STD.out.below hb34
 have B4:B≤w4.heap.size:=Nat.le_trans hB2 (Nat.le_trans HWD.out.size hb34.size)
 have c4:=KC.out _ hb34
 obtain ⟨v4,h41,h42,h43⟩:=st4
 have hvv:v4=vv:=by
  have:=cell_blk h41 (j:=0) rfl
  rw [c4.1.2] at this
  exact (Option.some.inj this).symm
 subst hvv
 obtain ⟨ao,cap,rfl,-,-⟩:=wown_form h42
 have hss:hd.data.toList.length=hd.size:=by rw [Array.length_toList];rfl
 have ST:=Hh (fun (w8:World) (v':Value) (ho:w8.ownsRow B 5 1 v' (l.length+hd.size) (bytesV l++Lib.strCells hd)) (hg:w4.grownBy w8 (Value.slice ao l.length cap).ownBlock)=>wsc_step (l':=l++hd.data.toList) h41 h42 h43 twc (by rw [Lg,hss,bytesV_append];exact ho) hg)
 have H42:=Hh h42
 have HBB:=Hh (HWD.out.trans (hb34.mono HWD.out.size))
 have K14:=Hh ((HBB.out.block _ (lt_of_block K1.out)).trans K1.out)
 have K24:=Hh ((HBB.out.block _ (lt_of_block K2.out)).trans K2.out)
 clear hb34 hb4 c4 hss KC HB3 HWD STD HF HTX h42 h41
 refine ask_step _ rfl trivial ?_
 go_wp2_with (at_builtin;refine Lib.wpList_append_own_string _ rfl (.tmp 9) (.tmp 12) 73 9 rfl B 5 ib hub hust HIB.out hb0 hb1 hb2 _ l.length _ rfl H42.out hd rfl (by unfold maxLen;omega) (by omega) B4 ?_;intro v' w8 hown hgr hnil)
 obtain ⟨ao8,cap8,rfl,-,-⟩:=wown_form hown
 obtain ⟨k8,st8,fr8⟩:=ST.out w8 _ hown hgr
 have k18:=(heap_setCell_other w8 ⟨g,0,none⟩ p1 (.slice ao8 (l.length+hd.size) cap8) hne1).symm.trans (fr8.2 p1 _ hne1 K14.out twnu)
 have k28:=(heap_setCell_other w8 ⟨g,0,none⟩ p2 (.slice ao8 (l.length+hd.size) cap8) hne2).symm.trans (fr8.2 p2 _ hne2 K24.out tnnu)
 have K15:=Hh (fr8.2 p1 _ hne1 K14.out twnu)
 have K25:=Hh (fr8.2 p2 _ hne2 K24.out tnnu)
 have ST5:=Hh st8
 have FR5:=Hh fr8
 refine Seg.mk ⟨⟨⟨cell_blk k18 rfl,cell_blk k8 rfl⟩,six_of k28⟩,?_⟩
 have c8:w8.cell? ⟨g,0,none⟩=some (.slice ao l.length cap):=cell_blk k8 rfl
 have f8:w8.frozen? ⟨g,0,none⟩=false:=free_blk k8
 clear hown hgr hnil k8 st8 fr8 k18 k28 ST H42 K14 K24
 refine ask_late _ rfl trivial ?_;go_wp2_with fail;refine Seg.mk ?_
 refine take_any _ ?_ rfl rfl ?_ (fun K hK=>?_);rotate_left;(intro w0;go_simp;(try rfl));(go_simp;refine hK _ ?_;clear hK K)
 refine ask_last _ rfl trivial ?_
 go_upto_region 2 with fail
 generalize w8.setCell ⟨g,0,none⟩ (.slice ao8 (l.length+hd.size) cap8)=w5 at K15 K25 ST5 FR5 ⊢
 -- THE TEXT
 obtain ⟨l1',hl1'⟩:∃t,t=l++hd.data.toList:=⟨_,rfl⟩
 rw [←hl1'] at ST5
 have hl1n:l1'.length≤65545:=by rw [hl1',Lg,show hd.data.toList.length=hd.size by rw [Array.length_toList];rfl];omega
 rw [HHD.out] at hl1'
 have HL1:=Hh hl1'
 have B5:B≤w5.heap.size:=Nat.le_trans B4 FR5.out.1.size
 clear hl1' c8 f8
 have hwd:Below w5.heap.size w5 w5.drew:=(Br _ _).drew
 obtain ⟨v5,h51,h52,h53⟩:=id ST5.out
 obtain ⟨ao5,cap5,rfl,-,-⟩:=wown_form h52
 have cs5:(w5.cell? ⟨p1,0,none⟩=some (.pointer (some ⟨g,0,none⟩))∧w5.cell? ⟨g,0,none⟩=some ((.slice ao5 l1'.length cap5)))∧w5.cell? ⟨p2,0,none⟩=some (.int .i64 x.kind)∧w5.cell? ⟨p2,1,none⟩=some (.bool x.bool)∧w5.cell? ⟨p2,2,none⟩=some (.int .i64 x.num)∧w5.cell? ⟨p2,3,none⟩=some (.string x.text)∧w5.cell? ⟨p2,4,none⟩=some (.slice a1 l1 c1)∧w5.cell? ⟨p2,5,none⟩=some (.slice a2 l2 c2):=⟨⟨cell_blk K15.out rfl,cell_blk h51 rfl⟩,six_of K25.out⟩
 have hss:x.text.data.toList.length=x.text.size:=by rw [Array.length_toList];rfl
 have D1:w5.drew.heap[g]?=some (.cells #[.slice ao5 l1'.length cap5] 213 (0,0)):=h51
 have D2:w5.drew.ownsRow B 5 1 (.slice ao5 l1'.length cap5) l1'.length (bytesV l1'):=h52
 have ST:=Hh (fun (w8:World) (v':Value) (ho:w8.ownsRow B 5 1 v' (l1'.length+x.text.size) (bytesV l1'++Lib.strCells x.text)) (hg:w5.drew.grownBy w8 (Value.slice ao5 l1'.length cap5).ownBlock)=>wsc_step (l':=l1'++x.text.data.toList) D1 D2 h53 twc (by rw [Lg,hss,bytesV_append];exact ho) hg)
 have H52:=Hh D2
 have HBB2:=Hh hwd
 have K1d:Hid (w5.drew.heap[p1]?=some (.cells #[.pointer (some ⟨g,0,none⟩)] 245 (0,0))):=Hh K15.out
 have K2d:Hid (w5.drew.heap[p2]?=some (.cells #[.int .i64 x.kind,.bool x.bool,.int .i64 x.num,.string x.text,.slice a1 l1 c1,.slice a2 l2 c2] 28 (0,0))):=Hh K25.out
 have Bd:B≤w5.drew.heap.size:=B5
 clear h51 h52 h53 hss D1 D2 hwd
 refine wp_region_plan (fun w'=>(w'.cell? ⟨p1,0,none⟩=some (.pointer (some ⟨g,0,none⟩))∧w'.cell? ⟨g,0,none⟩=some ((.slice ao5 l1'.length cap5)))∧w'.cell? ⟨p2,0,none⟩=some (.int .i64 x.kind)∧w'.cell? ⟨p2,1,none⟩=some (.bool x.bool)∧w'.cell? ⟨p2,2,none⟩=some (.int .i64 x.num)∧w'.cell? ⟨p2,3,none⟩=some (.string x.text)∧w'.cell? ⟨p2,4,none⟩=some (.slice a1 l1 c1)∧w'.cell? ⟨p2,5,none⟩=some (.slice a2 l2 c2)) [0,1,4,6] (.take 0 (.take 1 (.take 2 (.take 3 (.take 4 (.take 5 (.take 6 (.ask 7 true (.ask 8 false (.take 9 (.ask 10 false .stop .stop)) .stop) .stop)))))))) (by kernel_rfl) (by kernel_rfl) (fun _ d _ _ _ h=>by cases d <;> exact h) cs5 ?_
 clear cs5
 generalize w5.drew=wd at ST H52 HBB2 K1d K2d Bd ⊢
 refine take_held _ ?_ rfl rfl (by decide) ?_ (fun K hK=>?_);rotate_left;(intro w0 hw0;obtain ⟨⟨s0,s1⟩,s2,s3,s4,s5,s6,s7⟩:=hw0;go_simp;(try rfl));(go_simp;refine hK _ ?_;clear hK K)
 refine take_held _ ?_ rfl rfl (by decide) ?_ (fun K hK=>?_);rotate_left;(intro w0 hw0;obtain ⟨⟨s0,s1⟩,s2,s3,s4,s5,s6,s7⟩:=hw0;go_simp;(try rfl));(go_simp;refine hK _ ?_;clear hK K)
 refine take_any _ ?_ rfl rfl ?_ (fun K hK=>?_);rotate_left;(intro w0;go_simp;(try rfl));(go_simp;refine hK _ ?_;clear hK K)
 refine take_any _ ?_ rfl rfl ?_ (fun K hK=>?_);rotate_left;(intro w0;go_simp;(try rfl));(go_simp;refine hK _ ?_;clear hK K)
 refine take_held _ ?_ rfl rfl (by decide) ?_ (fun K hK=>?_);rotate_left;(intro w0 hw0;obtain ⟨⟨s0,s1⟩,s2,s3,s4,s5,s6,s7⟩:=hw0;go_simp;(try rfl));(go_simp;refine hK _ ?_;clear hK K)
 refine take_any _ ?_ rfl rfl ?_ (fun K hK=>?_);rotate_left;(intro w0;go_simp;(try rfl));(go_simp;refine hK _ ?_;clear hK K)
 refine take_held _ ?_ rfl rfl (by decide) ?_ (fun K hK=>?_);rotate_left;(intro w0 hw0;obtain ⟨⟨s0,s1⟩,s2,s3,s4,s5,s6,s7⟩:=hw0;go_simp;(try rfl));(go_simp;refine hK _ ?_;clear hK K)
 refine ask_step _ rfl trivial ?_
 go_wp2_with (at_builtin;refine Lib.wpList_append_own_string _ rfl (.tmp 20) (.tmp 22) 73 9 rfl B 5 ib hub hust HIB.out hb0 hb1 hb2 _ l1'.length _ rfl H52.out x.text rfl (by unfold maxLen;omega) (by omega) Bd ?_;intro v' w9 hown hgr hnil)
 obtain ⟨ao9,cap9,rfl,-,-⟩:=wown_form hown
 obtain ⟨k9,st9,fr9⟩:=ST.out w9 _ hown hgr
 have k19:=(heap_setCell_other w9 ⟨g,0,none⟩ p1 (.slice ao9 (l1'.length+x.text.size) cap9) hne1).symm.trans (fr9.2 p1 _ hne1 K1d.out twnu)
 have k29:=(heap_setCell_other w9 ⟨g,0,none⟩ p2 (.slice ao9 (l1'.length+x.text.size) cap9) hne2).symm.trans (fr9.2 p2 _ hne2 K2d.out tnnu)
 have K16:=Hh (fr9.2 p1 _ hne1 K1d.out twnu)
 have K26:=Hh (fr9.2 p2 _ hne2 K2d.out tnnu)
 have ST6:=Hh st9
 have FR6:=Hh fr9
 refine Seg.mk ⟨⟨⟨cell_blk k19 rfl,cell_blk k9 rfl⟩,six_of k29⟩,?_⟩
 have c9:w9.cell? ⟨g,0,none⟩=some (.slice ao5 l1'.length cap5):=cell_blk k9 rfl
 have f9:w9.frozen? ⟨g,0,none⟩=false:=free_blk k9
 clear hown hgr hnil k9 st9 fr9 k19 k29 ST H52 K1d K2d
 refine ask_late _ rfl trivial ?_;go_wp2_with fail;refine Seg.mk ?_
 refine take_any _ ?_ rfl rfl ?_ (fun K hK=>?_);rotate_left;(intro w0;go_simp;(try rfl));(go_simp;refine hK _ ?_;clear hK K)
 refine ask_last _ rfl trivial ?_
 go_upto_region 3 with fail
 generalize w9.setCell ⟨g,0,none⟩ (.slice ao9 (l1'.length+x.text.size) cap9)=w6 at K16 K26 ST6 FR6 ⊢
 obtain ⟨l2',hl2'⟩:∃t,t=l1'++x.text.data.toList:=⟨_,rfl⟩
 rw [←hl2'] at ST6
 have hl2n:l2'.length≤131081:=by rw [hl2',Lg,show x.text.data.toList.length=x.text.size by rw [Array.length_toList];rfl];omega
 rw [HL1.out] at hl2'
 have HL2:=Hh hl2'
 have hfr6:WFr 5 g w w6:=FR2.out.trans ((WFr.of_below HBB.out (by have:=HBB.out;have:=lt_of_block K2.out;omega)).trans (FR5.out.trans ((WFr.of_below HBB2.out (by have:=lt_of_block K25.out;omega)).trans FR6.out)))
 have HFR6:=Hh hfr6
 clear hl2' c9 f9 hfr6
 have ck6:=six_of K26.out
 -- THE PARTS
 go_wp2_with (go_at_call 224;(with_reducible refine (cparts_any _).mono ?_);rintro e w7 ⟨rfl,rfl⟩)
 have b67:=(Br w6.heap.size w6).alloc (o:=.cells #[.int .i64 x.kind,.bool x.bool,.int .i64 x.num,.string x.text,.slice a1 l1 c1,.slice a2 l2 c2] 28) (Lr _)
 have k7:=Hn w6 (.cells #[.int .i64 x.kind,.bool x.bool,.int .i64 x.num,.string x.text,.slice a1 l1 c1,.slice a2 l2 c2] 28)
 have hg6:g<w6.heap.size:=ST6.out.lt
 have st7:=ST6.out.below b67
 have hfr7:WFr 5 g w (w6.alloc (.cells #[.int .i64 x.kind,.bool x.bool,.int .i64 x.num,.string x.text,.slice a1 l1 c1,.slice a2 l2 c2] 28)):=HFR6.out.trans (WFr.of_below b67 (Nat.le_of_lt hg6))
 have k17:=(b67.block _ (lt_of_block K16.out)).trans K16.out
 have hg7:g<(w6.alloc (.cells #[.int .i64 x.kind,.bool x.bool,.int .i64 x.num,.string x.text,.slice a1 l1 c1,.slice a2 l2 c2] 28)).heap.size:=Ll hg6 b67.size
 have hBw:B≤(w6.alloc (.cells #[.int .i64 x.kind,.bool x.bool,.int .i64 x.num,.string x.text,.slice a1 l1 c1,.slice a2 l2 c2] 28)).heap.size:=Nat.le_trans Bd (Nat.le_trans FR6.out.1.size b67.size)
 obtain ⟨b7,hb7⟩:∃b,b=w6.heap.size:=⟨_,rfl⟩
 rw [←hb7] at k7 ⊢
 have hb7g:b7 ≠ g:=by omega
 generalize w6.alloc (.cells #[.int .i64 x.kind,.bool x.bool,.int .i64 x.num,.string x.text,.slice a1 l1 c1,.slice a2 l2 c2] 28)=w7 at k7 st7 hfr7 k17 hg7 hBw ⊢
 clear hb7 b67 hg6 ck6
 obtain ⟨h2,hS,hv,hn⟩:=H.out
 have h7:NodeIn (D+1) S w7 [.int .i64 x.kind,.bool x.bool,.int .i64 x.num,.string x.text,.slice a1 l1 c1,.slice a2 l2 c2] x:=h2.same fun b hb=>by
  have h2w:w2.heap[b]?=w.heap[b]?:=FR2.out.1.block b (hS b hb)
  rw [hfr7.1.block b (hS b hb),h2w]
 have HBW:Hid (B≤w7.heap.size∧w.heap.size≤w7.heap.size):=Hh ⟨hBw,hfr7.1.size⟩
 refine wpIn_wide (n:=10).1 ?_
 refine wpIn_rangeFunc_ownH rfl (by decide) (gf:=247) (lb:=#[.pointer (some ⟨b7,0,none⟩)]) rfl trivial (enters_of Tryz.func247 (by kernel_rfl) rfl)
  (parts1_stops (D:=D) (d:=d) (S:=S) w7 hS hb7g k7 h7 hv hn hg7 9 (by decide)) KpW.trans (kpW_b (Nat.le_of_lt hg7)) (Br _ _) (fun _=>rfl)
  (fun pre W=>∃l',WScC B W g l'∧Out l2' ((ndsOf pre).flatMap (writeC d)) l'∧l'.length≤140000∧WFr 5 g w7 W)
  (fun c pre W=>c=.ret∧∃l',WScC B W g l'∧Out l2' ((ndsOf pre).flatMap (writeC d)) l'∧65536<l'.length∧l'.length≤140000∧WFr 5 g w7 W)
  (fun s W W' row hs hg hr=>by
   obtain ⟨l',q1,q2,q3,q4⟩:=hs
   exact ⟨l',wsc_own q1 hg (fun r e=>(hr r e).2),q2,q3,wfr_own q4 (Lr _) hg7 hg (fun r e=>(hr r e).1) q4.1.size⟩)
  (fun c s W W' row hs hg hr=>by
   obtain ⟨hc,l',q1,q2,q3,q4,q5⟩:=hs
   exact ⟨hc,l',wsc_own q1 hg (fun r e=>(hr r e).2),q2,q3,q4,wfr_own q5 (Lr _) hg7 hg (fun r e=>(hr r e).1) q5.1.size⟩)
  ⟨l2',st7,.inl (by simp [ndsOf]),by omega,WFr.refl _ _ _⟩
  (fun p a' W=>∃Bx,Bx ≠ g∧W.heap[Bx]?=some (.cells p.1.1.toArray 28 (0,0))∧a'={ tmps:=#[.pointer (some ⟨g,0,none⟩),.agg #[.int .i64 x.kind,.bool x.bool,.int .i64 x.num,.string x.text,.slice a1 l1 c1,.slice a2 l2 c2],.pointer (some ⟨p1,0,none⟩),.pointer (some ⟨p2,0,none⟩),.pointer (some ⟨Bx,0,none⟩),.pointer (some ⟨g,0,none⟩),.pointer (some ⟨g,0,none⟩),.pointer (some ⟨g,0,none⟩),.pointer (some ⟨g,0,none⟩),.slice ao l.length cap,.agg #[.int .i64 x.kind,.bool x.bool,.int .i64 x.num,.string x.text,.slice a1 l1 c1,.slice a2 l2 c2],.agg #[.int .i64 zm,.int .u64 zc],.string hd,.slice ao8 (l.length+hd.size) cap8,.pointer (some ⟨g,0,none⟩),.pointer (some ⟨g,0,none⟩),.pointer (some ⟨g,0,none⟩),.pointer (some ⟨g,0,none⟩),.pointer (some ⟨g,0,none⟩),.pointer (some ⟨g,0,none⟩),.slice ao5 l1'.length cap5,.pointer (some ⟨p2,3,none⟩),.string x.text,.slice ao9 (l1'.length+x.text.size) cap9,.pointer (some ⟨g,0,none⟩),.pointer (some ⟨g,0,none⟩),.agg #[.int .i64 x.kind,.bool x.bool,.int .i64 x.num,.string x.text,.slice a1 l1 c1,.slice a2 l2 c2],.func (.func 247) #[] #[.pointer (some ⟨b7,0,none⟩)],.agg p.1.1.toArray,undef,undef,undef,undef,undef],defers:=[] })
  (fun p a' _ W W' row hs hg hr=>by
   obtain ⟨Bx,q1,q2,q3⟩:=hs
   refine ⟨Bx,q1,(hg.block Bx (lt_of_block q2) fun e=>?_).trans q2,q3⟩
   obtain ⟨-,o,ho,hc⟩:=hr Bx e.symm
   rw [q2] at ho
   cases ho
   cases hc)
  ?assign ?body ?done ?stop
 case assign=>
  rintro lp pre ⟨⟨cs,y⟩,hy⟩ W K ⟨l',q1,q2,q3,q4⟩ hK
  dsimp only at hy
  obtain ⟨a3,l3,c3,a4,l4,c4,rfl⟩:=hy.1.slices
  gi_wp2
  have bA:=(Br W.heap.size W).alloc (o:=.cells #[.int .i64 y.kind,.bool y.bool,.int .i64 y.num,.string y.text,.slice a3 l3 c3,.slice a4 l4 c4] 28) (Lr _)
  have hgW:=q1.lt
  have fA:=WFr.of_below (TB:=5) bA (Nat.le_of_lt hgW)
  exact hK _ _ (keeps_of_wfr fA (Nat.le_of_lt hgW) hg7) (KpW.of fA) ⟨l',q1.below bA,q2,q3,q4.trans fA⟩ ⟨W.heap.size,by omega,Hn W _,rfl⟩
 case body=>
  rintro lp pre ⟨⟨cs,y⟩,hy⟩ a' W hlp ⟨r,hr⟩ ⟨l',q1,q2,q3,q4⟩ ⟨Bx,hBx,hkx,rfl⟩ hlt
  dsimp only at hy
  obtain ⟨a3,l3,c3,a4,l4,c4,rfl⟩:=hy.1.slices
  have hkW:=q4.2 p1 _ hne1 k17 twnu
  have cp1:W.cell? ⟨p1,0,none⟩=some (.pointer (some ⟨g,0,none⟩)):=cell_blk hkW rfl
  have cbx:=six_of hkx
  have hgW:=q1.lt
  have EX:=Hh (cexc_any W q1)
  have h1':1≤10 - 1 - 1:=by decide
  by_cases hov:65536<l'.length
  ·rw [decide_eq_true hov] at EX
   have Q4:=Hh q4
   have Q1:=Hh q1
   have Q2:=Hh q2
   clear q1 q2 q4 hkW
   gi_wp2_with (refine ⟨trivial,?_⟩;gi_at_call 199;refine (CallsIn.inRound lp (callsIn_wide.2 EX.out)).mono ?_;rintro e W2 ⟨rfl,hww⟩;(replace hww:=hww.symm);subst hww)
   exact ⟨KeepsFrom.refl _ _,rfl,l',Q1.out,Q2.out.cut hov (flat_prefix ⟨[y],by rw [ndsOf_snoc]⟩),hov,q3,Q4.out⟩
  ·rw [decide_eq_false hov] at EX
   have hyW:NodeIn D S W [.int .i64 y.kind,.bool y.bool,.int .i64 y.num,.string y.text,.slice a3 l3 c3,.slice a4 l4 c4] y:=hy.1.same fun b hb=>q4.1.block b (hS b hb)
   have HN':=Hh (HIH.out D S _ y W B g l' q1 (Nat.le_trans HBW.out.1 q4.1.size) (by omega) hyW hS hy.2.1 hy.2.2)
   have Q4:=Hh q4
   have Q2:=Hh q2
   have HGW:=Hh hgW
   clear q1 q2 q4 hkW hyW
   gi_wp2_with (first
    | (refine ⟨trivial,?_⟩;gi_at_call 199;refine (CallsIn.inRound lp (callsIn_wide.2 EX.out)).mono ?_;rintro e W2 ⟨rfl,hww⟩;(replace hww:=hww.symm);subst hww)
    | (refine ⟨trivial,?_⟩;gi_at_call 198;refine (CallsIn.inRound lp (callsIn_wide.2 HN'.out)).mono ?_;rintro e W3 ⟨rfl,l3',u1,u2,u3,u4⟩;(have U1:=Hh u1);(have U2:=Hh u2);(have U4:=Hh u4);clear u1 u2 u4))
   exact ⟨keeps_of_wfr U4.out (Nat.le_of_lt HGW.out) hg7,KpW.of U4.out,l3',U1.out,by rw [ndsOf_snoc,List.flatMap_append];have:=Q2.out.more hov U2.out;simpa using this,u3,Q4.out.trans U4.out⟩
 case done=>
  rintro DD xs W hD hxs ⟨l',q1,q2,q3,q4⟩ hK
  have hgr:=grownBy_putObj' W DD (.deferred none)
  have hrow:∀r,some DD=some r→∃o:Obj,W.heap[r]?=some o∧o.isCells=false:=fun r e=>by cases e;exact ⟨_,hK,rfl⟩
  have st9:=wsc_own q1 hgr hrow
  have fr9:=wfr_own (hfr7.trans q4) HBW.out.2 hg7 hgr (fun r e=>by cases e;exact hD) q4.1.size
  have ho9:Out l (writeC (d+1) x) l':=by
   rw [writeC_parts hv,←hxs]
   rw [HL2.out] at q2
   rw [List.append_assoc] at q2
   exact out_pre q2
  have F:=Hh (show ∃l',WScC B (W.putObj DD (.deferred none)) g l'∧Out l (writeC (d+1) x) l'∧l'.length≤140000∧WFr 5 g w (W.putObj DD (.deferred none)) from ⟨l',st9,ho9,q3,fr9⟩)
  clear q1 q2 q4 hgr hrow st9 fr9 ho9 hxs
  show bodyPostM _ _ _ _ _ Exit.normal _ _
  refine ⟨by simp,.inl ⟨_,_,rfl,run_takeDeferred hK,?_⟩⟩
  exact ⟨_,results_none rfl _ _ _,rfl,F.out⟩
 case stop=>
  rintro DD c pre W hD hpre ⟨rfl,l',q1,q2,q3,q4,q5⟩ hK
  have hgr:=grownBy_putObj' W DD (.deferred none)
  have hrow:∀r,some DD=some r→∃o:Obj,W.heap[r]?=some o∧o.isCells=false:=fun r e=>by cases e;exact ⟨_,hK,rfl⟩
  have st9:=wsc_own q1 hgr hrow
  have fr9:=wfr_own (hfr7.trans q5) HBW.out.2 hg7 hgr (fun r e=>by cases e;exact hD) q5.1.size
  have ho9:Out l (writeC (d+1) x) l':=by
   rw [writeC_parts hv]
   have q6:=q2.cut q3 (flat_prefix (f:=writeC d) hpre)
   rw [HL2.out] at q6
   rw [List.append_assoc] at q6
   exact out_pre q6
  have F:=Hh (show ∃l',WScC B (W.putObj DD (.deferred none)) g l'∧Out l (writeC (d+1) x) l'∧l'.length≤140000∧WFr 5 g w (W.putObj DD (.deferred none)) from ⟨l',st9,ho9,q4,fr9⟩)
  clear q1 q2 q5 hgr hrow st9 fr9 ho9 hpre
  refine wpIn_ret ?_
  show bodyPostM _ _ _ _ _ Exit.ret _ _
  refine ⟨by simp,.inl ⟨_,_,rfl,run_takeDeferred hK,?_⟩⟩
  exact ⟨_,results_none rfl _ _ _,rfl,F.out⟩
theorem wnode_any:∀d,WNodeAt d
 | 0=>fun D S cs x w B g l _ _ _ _ _ hv=>by cases hv
 | d+1=>wnode_step (wnode_any d)
end Go.Proofs.YtcklddldejejcaaGreatDoor