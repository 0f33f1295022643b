import Derived.Test.YtncdpanfefnjlaaGreatDoorCwp
set_option linter.unusedVariables false
set_option linter.unusedSimpArgs false
set_option maxHeartbeats 12800000
set_option maxRecDepth 100000
namespace Go.Proofs.YtncdpanfefnjlaaGreatDoor
open Go.Proofs.Tryz
open Go Go.ChangeShapes Go.WideShapes Go.ChangeAt Go.RowKit Go.Shelf
attribute [local go_sem] Oper.semAt_some
theorem ZN {cs:Array Value}:∀ (ds:Array Value) (fz:Nat × Nat),Obj.cells cs 212 (0,0) ≠ Obj.cells ds 5 fz:=fun ds fz e=>by simp at e
theorem aFe {cs:Array Value}:∀ (ds:Array Value) (fz:Nat × Nat),Obj.cells cs 28 (0,0) ≠ Obj.cells ds 5 fz:=fun ds fz e=>by simp at e
def aIu (B g:Nat) (l T:Ub) (w:World) (e:Ending) (w':World):Prop:=e=.returned (.tuple #[])∧∃l',RK B w' g l'∧Out l T l'∧l'.length≤140000∧WFr 5 g w w'
def GN (d:Nat):Prop:=∀ (D:Nat) (S:Nat→Prop) (cs:Vl) (x:ND) (w:World) (B g:Nat) (l:Ub),RK B w g l→B≤w.heap.size→l.length≤65536→aC D S w cs x→(∀b,S b→b<g)→aB d x=true→aO d x=true →
 Calls prog 145 #[.pointer (some ⟨g,0,none⟩),.agg cs.toArray] w (aIu B g l (bJ d x) w)
theorem NI {d:Nat} (IH:GN d):GN (d+1):=by
 intro D S cs x w B g l hst hB hl h hS hv hn;obtain ⟨a1,l1,c1,a2,l2,c2,rfl⟩:=h.slices;cases D with
 | zero=>exact h.elim
 | succ D=>
 have hgl:=hst.lt;obtain ⟨p1,hp1⟩:∃p,p=w.heap.size:=⟨_,rfl⟩;obtain ⟨p2,hp2⟩:∃p,p=w.heap.size+1:=⟨_,rfl⟩;have hxt:x.text.size≤65536:=fJ (aX hv).2.2.1;have hcn:=xD hv hn;have hcm:=xC x;have bb:=((Br w.heap.size w).alloc (o:=.cells #[.pointer (some ⟨g,0,none⟩)] 212) (Lr _)).alloc (o:=.cells (Na x a1 l1 c1 a2 l2 c2) 28) (by simp)
 have k1:=((Br (w.heap.size+1) (w.alloc (.cells #[.pointer (some ⟨g,0,none⟩)] 212))).alloc (o:=.cells (Na x a1 l1 c1 a2 l2 c2) 28) (by simp)).block w.heap.size (by omega) |>.trans (Hn w (.cells #[.pointer (some ⟨g,0,none⟩)] 212))
 have k2:=Hn (w.alloc (.cells #[.pointer (some ⟨g,0,none⟩)] 212)) (.cells (Na x a1 l1 c1 a2 l2 c2) 28);rw [Cw] at k2;rw [←hp1] at k1;rw [←hp2] at k2;obtain ⟨w2,hw2⟩:∃W,W=(w.alloc (.cells #[.pointer (some ⟨g,0,none⟩)] 212)).alloc (.cells (Na x a1 l1 c1 a2 l2 c2) 28):=⟨_,rfl⟩;rw [←hw2] at bb k1 k2;have hst2:=hst.below bb;have hfr2:=WFr.of_below (TB:=5) bb (Bo hgl);have hB2:B≤w2.heap.size:=Ae hB bb.size;have h2:aC (D+1) S w2 (Nc x a1 l1 c1 a2 l2 c2) x:=h.same fun b hb=>bb.block b (Cl (hS b hb) hgl)
 have hne1:p1 ≠ g:=by omega
 have hne2:p2 ≠ g:=by omega
 have HF:=Hh (fun (wx:World) (hb:Below w2.heap.size w2 wx)=>nC _ x wx (h2.same fun b hb'=>hb.block b (Ll (Cl (hS b hb') hgl) bb.size)) hv hn)
 have HTX:=Hh (fun (wx:World)=>VJ (fV x) (gG x) wx hcm hcn)
 rw [show iI x=.agg #[Iz (fV x:Int),.int .u64 (gG x:Int)] from rfl] at HF
 obtain ⟨hd,hhd⟩:∃t:Bt,t=bC (eA (fV x) (gG x)):=⟨_,rfl⟩;rw [←hhd] at HTX;have hhl:hd.size≤9:=by rw [hhd,eH,kU];have:=LJ (gG x);omega
 have hhdl:hd.data.toList=eA (fV x) (gG x):=by rw [hhd,iE]
 have HHD:=Hh hhdl;obtain ⟨zm,hzm⟩:∃z:Int,z=(fV x:Int):=⟨_,rfl⟩;obtain ⟨zc,hzc⟩:∃z:Int,z=(gG x:Int):=⟨_,rfl⟩;rw [←hzm,←hzc] at HF HTX;have HIH:=Hh IH;have H:=Hh (Ai h2 (Ai hS (Ai hv hn)));have K1:=Hh k1;have K2:=Hh k2;have FR2:=Hh hfr2;have ST2:=Hh hst2;have HP12:=Hh (Ai hp1 hp2);clear IH h h2 hS hv hn hcn hcm k1 k2 hfr2 hst2 hst bb hhd hhdl hzm hzc hB;obtain ⟨ib,hib,hb0,hb1,hb2⟩:=info_parts qE;have hub:=underlying69;have hust:=underlying9;have HIB:=Hh hib;clear hib;refine (callsIn_wide (n:=10)).1 ?_;refine callsIn_of_wp_marks func145 rfl trivial ?_ rfl;simp only [ntmps145,Du,Ag,Bs,Nat.reduceAdd,Nat.reduceSub,Array.replicate_succ,Array.replicate_zero,List.push_toArray,List.append_toArray,Dm,Bm];refine wpIn_mono (Q:=ED _) ?_ ED.o;refine wpIn_wide.2 ?_
 go_upto_region 1 with fail
 rw [←hw2,←hp2,←hp1];clear hw2 hp1 hp2
 -- THE HEAD
 have hwd:Below w2.heap.size w2 w2.drew:=(Br _ _).drew;have std:=ST2.o.below hwd;obtain ⟨vv,hv1,hv2,hv3⟩:=id ST2.o;have cs2:(w2.cell? ⟨p1,0,none⟩=some (.pointer (some ⟨g,0,none⟩))∧w2.cell? ⟨g,0,none⟩=some (vv))∧w2.cell? ⟨p2,0,none⟩=some (Iz x.kind)∧w2.cell? ⟨p2,1,none⟩=some (.bool x.bool)∧w2.cell? ⟨p2,2,none⟩=some (Iz x.num)∧w2.cell? ⟨p2,3,none⟩=some (.string x.text)∧w2.cell? ⟨p2,4,none⟩=some (.slice a1 l1 c1)∧w2.cell? ⟨p2,5,none⟩=some (.slice a2 l2 c2):=⟨⟨aL K1.o rfl,aL hv1 rfl⟩,aA K2.o⟩;have csd:(w2.drew.cell? ⟨p1,0,none⟩=some (.pointer (some ⟨g,0,none⟩))∧w2.drew.cell? ⟨g,0,none⟩=some (vv))∧w2.drew.cell? ⟨p2,0,none⟩=some (Iz x.kind)∧w2.drew.cell? ⟨p2,1,none⟩=some (.bool x.bool)∧w2.drew.cell? ⟨p2,2,none⟩=some (Iz x.num)∧w2.drew.cell? ⟨p2,3,none⟩=some (.string x.text)∧w2.drew.cell? ⟨p2,4,none⟩=some (.slice a1 l1 c1)∧w2.drew.cell? ⟨p2,5,none⟩=some (.slice a2 l2 c2):=cs2;have hsz:p1<w2.drew.heap.size∧p2<w2.drew.heap.size∧g<w2.drew.heap.size:=⟨Aa K1.o,Aa K2.o,Aa hv1⟩;clear hv1 hv2 hv3;refine aJ (fun w'=>(w'.cell? ⟨p1,0,none⟩=some (.pointer (some ⟨g,0,none⟩))∧w'.cell? ⟨g,0,none⟩=some (vv))∧w'.cell? ⟨p2,0,none⟩=some (Iz x.kind)∧w'.cell? ⟨p2,1,none⟩=some (.bool x.bool)∧w'.cell? ⟨p2,2,none⟩=some (Iz x.num)∧w'.cell? ⟨p2,3,none⟩=some (.string x.text)∧w'.cell? ⟨p2,4,none⟩=some (.slice a1 l1 c1)∧w'.cell? ⟨p2,5,none⟩=some (.slice a2 l2 c2)) [0,1,4,5] (.take 0 (.take 1 (.take 2 (.take 3 (.take 4 (.take 5 (.ask 6 true (.ask 7 true (.ask 8 true (.ask 9 false (.take 10 (.ask 11 false .stop .stop)) .stop) .stop) .stop) .stop))))))) (by kernel_rfl) (by kernel_rfl) (fun _ d _ _ _ h=>by cases d <;> exact h) cs2 ?_
 clear cs2;generalize w2.drew=wd at hwd std csd hsz ⊢
 iterate 2 (refine aN _ ?_ rfl rfl (by decide) ?_ (fun K hK=>?_);rotate_left;(intro w0 hw0;obtain ⟨⟨s0,s1⟩,s2,s3,s4,s5,s6,s7⟩:=hw0;go_simp;(try rfl));(go_simp;refine hK _ ?_;clear hK K))
 iterate 2 (refine aG _ ?_ rfl rfl ?_ (fun K hK=>?_);rotate_left;(intro w0;go_simp;(try rfl));(go_simp;refine hK _ ?_;clear hK K))
 iterate 2 (refine aN _ ?_ rfl rfl (by decide) ?_ (fun K hK=>?_);rotate_left;(intro w0 hw0;obtain ⟨⟨s0,s1⟩,s2,s3,s4,s5,s6,s7⟩:=hw0;go_simp;(try rfl));(go_simp;refine hK _ ?_;clear hK K))
 have KC:=Hh (fun (wx:World) (hb:Below wd.heap.size wd wx)=>(show (wx.cell? ⟨p1,0,none⟩=some (.pointer (some ⟨g,0,none⟩))∧wx.cell? ⟨g,0,none⟩=some (vv))∧wx.cell? ⟨p2,0,none⟩=some (Iz x.kind)∧wx.cell? ⟨p2,1,none⟩=some (.bool x.bool)∧wx.cell? ⟨p2,2,none⟩=some (Iz x.num)∧wx.cell? ⟨p2,3,none⟩=some (.string x.text)∧wx.cell? ⟨p2,4,none⟩=some (.slice a1 l1 c1)∧wx.cell? ⟨p2,5,none⟩=some (.slice a2 l2 c2) from ⟨⟨(hb.cell (p:=⟨p1,0,none⟩) hsz.1).trans csd.1.1,(hb.cell (p:=⟨g,0,none⟩) hsz.2.2).trans csd.1.2⟩,(hb.cell (p:=⟨p2,0,none⟩) hsz.2.1).trans csd.2.1,(hb.cell (p:=⟨p2,1,none⟩) hsz.2.1).trans csd.2.2.1,(hb.cell (p:=⟨p2,2,none⟩) hsz.2.1).trans csd.2.2.2.1,(hb.cell (p:=⟨p2,3,none⟩) hsz.2.1).trans csd.2.2.2.2.1,(hb.cell (p:=⟨p2,4,none⟩) hsz.2.1).trans csd.2.2.2.2.2.1,(hb.cell (p:=⟨p2,5,none⟩) hsz.2.1).trans csd.2.2.2.2.2.2⟩))
 have HWD:=Hh hwd;have STD:=Hh std;clear csd hsz hwd std;refine aI _ rfl trivial ?_;go_wp2_with (go_at_call 167;(with_reducible refine (HF.o _ HWD.o).mono ?_);rintro e w3 ⟨rfl,hb3⟩);refine Seg.mk ⟨KC.o _ hb3,?_⟩;have HB3:=Hh hb3;clear hb3;refine aI _ rfl trivial ?_;go_wp2_with (go_at_call 168;(with_reducible refine (HTX.o _).mono ?_);rintro e w4 ⟨rfl,hb4⟩);have hb34:=HB3.o.trans (hb4.mono HB3.o.size);refine Seg.mk ⟨KC.o _ hb34,?_⟩;have st4:=STD.o.below hb34;have B4:B≤w4.heap.size:=Ae hB2 (Ae HWD.o.size hb34.size);have c4:=KC.o _ hb34;obtain ⟨v4,h41,h42,h43⟩:=st4;have hvv:v4=vv:=by
  have:=aL h41 (j:=0) rfl;rw [c4.1.2] at this;exact (Ab this).symm
 subst hvv;obtain ⟨ao,cap,rfl,-,-⟩:=dI h42;have hss:hd.data.toList.length=hd.size:=by rw [Ah];rfl
 have ST:=Hh (fun (w8:World) (v':Value) (ho:w8.ownsRow B 5 1 v' (l.length+hd.size) (aS l++Lib.strCells hd)) (hg:w4.grownBy w8 (Value.slice ao l.length cap).ownBlock)=>xI (l':=l++hd.data.toList) h41 h42 h43 twc (by rw [Lg,hss,cP];exact ho) hg)
 have H42:=Hh h42;have HBB:=Hh (HWD.o.trans (hb34.mono HWD.o.size));have K14:=Hh ((HBB.o.block _ (Aa K1.o)).trans K1.o);have K24:=Hh ((HBB.o.block _ (Aa K2.o)).trans K2.o);clear hb34 hb4 c4 hss KC HB3 HWD STD HF HTX h42 h41;refine aI _ rfl trivial ?_
 go_wp2_with (at_builtin;refine Lib.wpList_append_own_string _ rfl (.tmp 9) (.tmp 12) 69 9 rfl B 5 ib hub hust HIB.o hb0 hb1 hb2 _ l.length _ rfl H42.o hd rfl (by unfold maxLen;omega) (by omega) B4 ?_;intro v' w8 hown hgr hnil)
 obtain ⟨ao8,cap8,rfl,-,-⟩:=dI hown;obtain ⟨k8,st8,fr8⟩:=ST.o w8 _ hown hgr;have k18:=(heap_setCell_other w8 ⟨g,0,none⟩ p1 (.slice ao8 (l.length+hd.size) cap8) hne1).symm.trans (fr8.2 p1 _ hne1 K14.o ZN);have k28:=(heap_setCell_other w8 ⟨g,0,none⟩ p2 (.slice ao8 (l.length+hd.size) cap8) hne2).symm.trans (fr8.2 p2 _ hne2 K24.o aFe);have K15:=Hh (fr8.2 p1 _ hne1 K14.o ZN);have K25:=Hh (fr8.2 p2 _ hne2 K24.o aFe);have ST5:=Hh st8;have FR5:=Hh fr8;refine Seg.mk ⟨⟨⟨aL k18 rfl,aL k8 rfl⟩,aA k28⟩,?_⟩;have c8:w8.cell? ⟨g,0,none⟩=some (.slice ao l.length cap):=aL k8 rfl;have f8:w8.frozen? ⟨g,0,none⟩=false:=gM k8;clear hown hgr hnil k8 st8 fr8 k18 k28 ST H42 K14 K24;refine aF _ rfl trivial ?_;go_wp2_with fail;refine Seg.mk ?_;refine aG _ ?_ rfl rfl ?_ (fun K hK=>?_);rotate_left;(intro w0;go_simp;(try rfl));(go_simp;refine hK _ ?_;clear hK K)
 refine cG _ rfl trivial ?_
 go_upto_region 2 with fail
 generalize w8.setCell ⟨g,0,none⟩ (.slice ao8 (l.length+hd.size) cap8)=w5 at K15 K25 ST5 FR5 ⊢
 -- THE TEXT
 obtain ⟨l1',hl1'⟩:∃t,t=l++hd.data.toList:=⟨_,rfl⟩;rw [←hl1'] at ST5;have hl1n:l1'.length≤65545:=by rw [hl1',Lg,show hd.data.toList.length=hd.size by rw [Ah];rfl];omega
 rw [HHD.o] at hl1';have HL1:=Hh hl1';have B5:B≤w5.heap.size:=Ae B4 FR5.o.1.size;clear hl1' c8 f8;have hwd:Below w5.heap.size w5 w5.drew:=(Br _ _).drew;obtain ⟨v5,h51,h52,h53⟩:=id ST5.o;obtain ⟨ao5,cap5,rfl,-,-⟩:=dI h52;have cs5:(w5.cell? ⟨p1,0,none⟩=some (.pointer (some ⟨g,0,none⟩))∧w5.cell? ⟨g,0,none⟩=some ((.slice ao5 l1'.length cap5)))∧w5.cell? ⟨p2,0,none⟩=some (Iz x.kind)∧w5.cell? ⟨p2,1,none⟩=some (.bool x.bool)∧w5.cell? ⟨p2,2,none⟩=some (Iz x.num)∧w5.cell? ⟨p2,3,none⟩=some (.string x.text)∧w5.cell? ⟨p2,4,none⟩=some (.slice a1 l1 c1)∧w5.cell? ⟨p2,5,none⟩=some (.slice a2 l2 c2):=⟨⟨aL K15.o rfl,aL h51 rfl⟩,aA K25.o⟩;have hss:x.text.data.toList.length=x.text.size:=by rw [Ah];rfl
 have D1:w5.drew.heap[g]?=some (.cells #[.slice ao5 l1'.length cap5] 180 (0,0)):=h51;have D2:w5.drew.ownsRow B 5 1 (.slice ao5 l1'.length cap5) l1'.length (aS l1'):=h52;have ST:=Hh (fun (w8:World) (v':Value) (ho:w8.ownsRow B 5 1 v' (l1'.length+x.text.size) (aS l1'++Lib.strCells x.text)) (hg:w5.drew.grownBy w8 (Value.slice ao5 l1'.length cap5).ownBlock)=>xI (l':=l1'++x.text.data.toList) D1 D2 h53 twc (by rw [Lg,hss,cP];exact ho) hg)
 have H52:=Hh D2;have HBB2:=Hh hwd;have K1d:Hid (w5.drew.heap[p1]?=some (.cells #[.pointer (some ⟨g,0,none⟩)] 212 (0,0))):=Hh K15.o;have K2d:Hid (w5.drew.heap[p2]?=some (.cells (Na x a1 l1 c1 a2 l2 c2) 28 (0,0))):=Hh K25.o;have Bd:B≤w5.drew.heap.size:=B5;clear h51 h52 h53 hss D1 D2 hwd;refine aJ (fun w'=>(w'.cell? ⟨p1,0,none⟩=some (.pointer (some ⟨g,0,none⟩))∧w'.cell? ⟨g,0,none⟩=some ((.slice ao5 l1'.length cap5)))∧w'.cell? ⟨p2,0,none⟩=some (Iz x.kind)∧w'.cell? ⟨p2,1,none⟩=some (.bool x.bool)∧w'.cell? ⟨p2,2,none⟩=some (Iz x.num)∧w'.cell? ⟨p2,3,none⟩=some (.string x.text)∧w'.cell? ⟨p2,4,none⟩=some (.slice a1 l1 c1)∧w'.cell? ⟨p2,5,none⟩=some (.slice a2 l2 c2)) [0,1,4,6] (.take 0 (.take 1 (.take 2 (.take 3 (.take 4 (.take 5 (.take 6 (.ask 7 true (.ask 8 false (.take 9 (.ask 10 false .stop .stop)) .stop) .stop)))))))) (by kernel_rfl) (by kernel_rfl) (fun _ d _ _ _ h=>by cases d <;> exact h) cs5 ?_
 clear cs5;generalize w5.drew=wd at ST H52 HBB2 K1d K2d Bd ⊢
 iterate 2 (refine aN _ ?_ rfl rfl (by decide) ?_ (fun K hK=>?_);rotate_left;(intro w0 hw0;obtain ⟨⟨s0,s1⟩,s2,s3,s4,s5,s6,s7⟩:=hw0;go_simp;(try rfl));(go_simp;refine hK _ ?_;clear hK K))
 iterate 2 (refine aG _ ?_ rfl rfl ?_ (fun K hK=>?_);rotate_left;(intro w0;go_simp;(try rfl));(go_simp;refine hK _ ?_;clear hK K))
 refine aN _ ?_ rfl rfl (by decide) ?_ (fun K hK=>?_);rotate_left;(intro w0 hw0;obtain ⟨⟨s0,s1⟩,s2,s3,s4,s5,s6,s7⟩:=hw0;go_simp;(try rfl));(go_simp;refine hK _ ?_;clear hK K)
 refine aG _ ?_ rfl rfl ?_ (fun K hK=>?_);rotate_left;(intro w0;go_simp;(try rfl));(go_simp;refine hK _ ?_;clear hK K)
 refine aN _ ?_ rfl rfl (by decide) ?_ (fun K hK=>?_);rotate_left;(intro w0 hw0;obtain ⟨⟨s0,s1⟩,s2,s3,s4,s5,s6,s7⟩:=hw0;go_simp;(try rfl));(go_simp;refine hK _ ?_;clear hK K)
 refine aI _ rfl trivial ?_
 go_wp2_with (at_builtin;refine Lib.wpList_append_own_string _ rfl (.tmp 20) (.tmp 22) 69 9 rfl B 5 ib hub hust HIB.o hb0 hb1 hb2 _ l1'.length _ rfl H52.o x.text rfl (by unfold maxLen;omega) (by omega) Bd ?_;intro v' w9 hown hgr hnil)
 obtain ⟨ao9,cap9,rfl,-,-⟩:=dI hown;obtain ⟨k9,st9,fr9⟩:=ST.o w9 _ hown hgr;have k19:=(heap_setCell_other w9 ⟨g,0,none⟩ p1 (.slice ao9 (l1'.length+x.text.size) cap9) hne1).symm.trans (fr9.2 p1 _ hne1 K1d.o ZN);have k29:=(heap_setCell_other w9 ⟨g,0,none⟩ p2 (.slice ao9 (l1'.length+x.text.size) cap9) hne2).symm.trans (fr9.2 p2 _ hne2 K2d.o aFe);have K16:=Hh (fr9.2 p1 _ hne1 K1d.o ZN);have K26:=Hh (fr9.2 p2 _ hne2 K2d.o aFe);have ST6:=Hh st9;have FR6:=Hh fr9;refine Seg.mk ⟨⟨⟨aL k19 rfl,aL k9 rfl⟩,aA k29⟩,?_⟩;have c9:w9.cell? ⟨g,0,none⟩=some (.slice ao5 l1'.length cap5):=aL k9 rfl;have f9:w9.frozen? ⟨g,0,none⟩=false:=gM k9;clear hown hgr hnil k9 st9 fr9 k19 k29 ST H52 K1d K2d;refine aF _ rfl trivial ?_;go_wp2_with fail;refine Seg.mk ?_;refine aG _ ?_ rfl rfl ?_ (fun K hK=>?_);rotate_left;(intro w0;go_simp;(try rfl));(go_simp;refine hK _ ?_;clear hK K)
 refine cG _ rfl trivial ?_
 go_upto_region 3 with fail
 generalize w9.setCell ⟨g,0,none⟩ (.slice ao9 (l1'.length+x.text.size) cap9)=w6 at K16 K26 ST6 FR6 ⊢;obtain ⟨l2',hl2'⟩:∃t,t=l1'++x.text.data.toList:=⟨_,rfl⟩;rw [←hl2'] at ST6;have hl2n:l2'.length≤131081:=by rw [hl2',Lg,show x.text.data.toList.length=x.text.size by rw [Ah];rfl];omega
 rw [HL1.o] at hl2';have HL2:=Hh hl2';have hfr6:WFr 5 g w w6:=FR2.o.trans ((WFr.of_below HBB.o (by have:=HBB.o;have:=Aa K2.o;omega)).trans (FR5.o.trans ((WFr.of_below HBB2.o (by have:=Aa K25.o;omega)).trans FR6.o)))
 have HFR6:=Hh hfr6;clear hl2' c9 f9 hfr6;have ck6:=aA K26.o
 -- THE PARTS
 go_wp2_with (go_at_call 169;(with_reducible refine (QV _).mono ?_);rintro e w7 ⟨rfl,rfl⟩)
 have b67:=(Br w6.heap.size w6).alloc (o:=.cells (Na x a1 l1 c1 a2 l2 c2) 28) (Lr _);have k7:=Hn w6 (.cells (Na x a1 l1 c1 a2 l2 c2) 28);have hg6:g<w6.heap.size:=ST6.o.lt;have st7:=ST6.o.below b67;have hfr7:WFr 5 g w (w6.alloc (.cells (Na x a1 l1 c1 a2 l2 c2) 28)):=HFR6.o.trans (WFr.of_below b67 (Bo hg6));have k17:=(b67.block _ (Aa K16.o)).trans K16.o;have hg7:g<(w6.alloc (.cells (Na x a1 l1 c1 a2 l2 c2) 28)).heap.size:=Ll hg6 b67.size;have hBw:B≤(w6.alloc (.cells (Na x a1 l1 c1 a2 l2 c2) 28)).heap.size:=Ae Bd (Ae FR6.o.1.size b67.size);obtain ⟨b7,hb7⟩:∃b,b=w6.heap.size:=⟨_,rfl⟩;rw [←hb7] at k7 ⊢;have hb7g:b7 ≠ g:=by omega
 generalize w6.alloc (.cells (Na x a1 l1 c1 a2 l2 c2) 28)=w7 at k7 st7 hfr7 k17 hg7 hBw ⊢;clear hb7 b67 hg6 ck6;obtain ⟨h2,hS,hv,hn⟩:=H.o;have h7:aC (D+1) S w7 (Nc x a1 l1 c1 a2 l2 c2) x:=h2.same fun b hb=>by
  have h2w:w2.heap[b]?=w.heap[b]?:=FR2.o.1.block b (hS b hb);rw [hfr7.1.block b (hS b hb),h2w]
 have HBW:Hid (B≤w7.heap.size∧w.heap.size≤w7.heap.size):=Hh ⟨hBw,hfr7.1.size⟩;refine wpIn_wide (n:=10).1 ?_;refine wpIn_rangeFunc_ownH rfl (by decide) (gf:=195) (lb:=#[.pointer (some ⟨b7,0,none⟩)]) rfl trivial (enters_of func195 (by kernel_rfl) rfl)
  (EY (D:=D) (d:=d) (S:=S) w7 hS hb7g k7 h7 hv hn hg7 9 (by decide)) KpW.trans (aHj (Bo hg7)) (Br _ _) (fun _=>rfl)
  (fun pre W=>∃l',RK B W g l'∧Out l2' ((iX pre).flatMap (bJ d)) l'∧l'.length≤140000∧WFr 5 g w7 W)
  (fun c pre W=>c=.ret∧∃l',RK B W g l'∧Out l2' ((iX pre).flatMap (bJ d)) l'∧65536<l'.length∧l'.length≤140000∧WFr 5 g w7 W)
  (fun s W W' row hs hg hr=>by
   obtain ⟨l',q1,q2,q3,q4⟩:=hs;exact ⟨l',rJ q1 hg (fun r e=>(hr r e).2),q2,q3,rO q4 (Lr _) hg7 hg (fun r e=>(hr r e).1) q4.1.size⟩)
  (fun c s W W' row hs hg hr=>by
   obtain ⟨hc,l',q1,q2,q3,q4,q5⟩:=hs;exact ⟨hc,l',rJ q1 hg (fun r e=>(hr r e).2),q2,q3,q4,rO q5 (Lr _) hg7 hg (fun r e=>(hr r e).1) q5.1.size⟩)
  ⟨l2',st7,.inl (by simp [iX]),by omega,WFr.refl _ _ _⟩
  (fun p a' W=>∃Bx,Bx ≠ g∧W.heap[Bx]?=some (.cells p.1.1.toArray 28 (0,0))∧a'={ tmps:=#[.pointer (some ⟨g,0,none⟩),.agg (Na x a1 l1 c1 a2 l2 c2),.pointer (some ⟨p1,0,none⟩),.pointer (some ⟨p2,0,none⟩),.pointer (some ⟨Bx,0,none⟩),.pointer (some ⟨g,0,none⟩),.pointer (some ⟨g,0,none⟩),.pointer (some ⟨g,0,none⟩),.pointer (some ⟨g,0,none⟩),.slice ao l.length cap,.agg (Na x a1 l1 c1 a2 l2 c2),.agg #[Iz zm,.int .u64 zc],.string hd,.slice ao8 (l.length+hd.size) cap8,.pointer (some ⟨g,0,none⟩),.pointer (some ⟨g,0,none⟩),.pointer (some ⟨g,0,none⟩),.pointer (some ⟨g,0,none⟩),.pointer (some ⟨g,0,none⟩),.pointer (some ⟨g,0,none⟩),.slice ao5 l1'.length cap5,.pointer (some ⟨p2,3,none⟩),.string x.text,.slice ao9 (l1'.length+x.text.size) cap9,.pointer (some ⟨g,0,none⟩),.pointer (some ⟨g,0,none⟩),.agg (Na x a1 l1 c1 a2 l2 c2),.func (.func 195) #[] #[.pointer (some ⟨b7,0,none⟩)],.agg p.1.1.toArray,undef,undef,undef,undef,undef],defers:=[] })
  (fun p a' _ W W' row hs hg hr=>by
   obtain ⟨Bx,q1,q2,q3⟩:=hs;refine ⟨Bx,q1,(hg.block Bx (Aa q2) fun e=>?_).trans q2,q3⟩
   obtain ⟨-,o,ho,hc⟩:=hr Bx e.symm;rw [q2] at ho;cases ho;cases hc)
  ?assign ?body ?done ?stop
 case assign=>
  rintro lp pre ⟨⟨cs,y⟩,hy⟩ W K ⟨l',q1,q2,q3,q4⟩ hK;dsimp only at hy;obtain ⟨a3,l3,c3,a4,l4,c4,rfl⟩:=hy.1.slices
  gi_wp2
  have bA:=(Br W.heap.size W).alloc (o:=.cells (Na y a3 l3 c3 a4 l4 c4) 28) (Lr _);have hgW:=q1.lt;have fA:=WFr.of_below (TB:=5) bA (Bo hgW);exact hK _ _ (nA fA (Bo hgW) hg7) (KpW.of fA) ⟨l',q1.below bA,q2,q3,q4.trans fA⟩ ⟨W.heap.size,by omega,Hn W _,rfl⟩
 case body=>
  rintro lp pre ⟨⟨cs,y⟩,hy⟩ a' W hlp ⟨r,hr⟩ ⟨l',q1,q2,q3,q4⟩ ⟨Bx,hBx,hkx,rfl⟩ hlt;dsimp only at hy;obtain ⟨a3,l3,c3,a4,l4,c4,rfl⟩:=hy.1.slices;have hkW:=q4.2 p1 _ hne1 k17 ZN;have cp1:W.cell? ⟨p1,0,none⟩=some (.pointer (some ⟨g,0,none⟩)):=aL hkW rfl;have cbx:=aA hkx;have hgW:=q1.lt;have EX:=Hh (MF W q1);have h1':1≤10 - 1 - 1:=by decide
  by_cases hov:65536<l'.length
  ·rw [An hov] at EX
   have Q4:=Hh q4;have Q1:=Hh q1;have Q2:=Hh q2;clear q1 q2 q4 hkW
   gi_wp2_with (refine ⟨trivial,?_⟩;gi_at_call 146;refine (CallsIn.inRound lp (callsIn_wide.2 EX.o)).mono ?_;rintro e W2 ⟨rfl,hww⟩;(replace hww:=hww.symm);subst hww)
   exact ⟨KeepsFrom.refl _ _,rfl,l',Q1.o,Q2.o.cut hov (vX ⟨[y],by rw [jK]⟩),hov,q3,Q4.o⟩
  ·rw [Ap hov] at EX
   have hyW:aC D S W (Nc y a3 l3 c3 a4 l4 c4) y:=hy.1.same fun b hb=>q4.1.block b (hS b hb)
   have HN':=Hh (HIH.o D S _ y W B g l' q1 (Ae HBW.o.1 q4.1.size) (by omega) hyW hS hy.2.1 hy.2.2)
   have Q4:=Hh q4;have Q2:=Hh q2;have HGW:=Hh hgW;clear q1 q2 q4 hkW hyW
   gi_wp2_with (first
    | (refine ⟨trivial,?_⟩;gi_at_call 146;refine (CallsIn.inRound lp (callsIn_wide.2 EX.o)).mono ?_;rintro e W2 ⟨rfl,hww⟩;(replace hww:=hww.symm);subst hww)
    | (refine ⟨trivial,?_⟩;gi_at_call 145;refine (CallsIn.inRound lp (callsIn_wide.2 HN'.out)).mono ?_;rintro e W3 ⟨rfl,l3',u1,u2,u3,u4⟩;(have U1:=Hh u1);(have U2:=Hh u2);(have U4:=Hh u4);clear u1 u2 u4))
   exact ⟨nA U4.o (Bo HGW.o) hg7,KpW.of U4.o,l3',U1.o,by rw [jK,List.flatMap_append];have:=Q2.o.more hov U2.o;simpa using this,u3,Q4.o.trans U4.o⟩
 case done=>
  rintro DD xs W hD hxs ⟨l',q1,q2,q3,q4⟩ hK;have hgr:=grownBy_putObj' W DD (.deferred none);have hrow:∀r,some DD=some r→∃o:Obj,W.heap[r]?=some o∧o.isCells=false:=fun r e=>by cases e;exact ⟨_,hK,rfl⟩
  have st9:=rJ q1 hgr hrow;have fr9:=rO (hfr7.trans q4) HBW.o.2 hg7 hgr (fun r e=>by cases e;exact hD) q4.1.size
  have ho9:Out l (bJ (d+1) x) l':=by
   rw [rK hv,←hxs];rw [HL2.o] at q2;rw [Aj] at q2;exact SK q2
  have F:=Hh (show ∃l',RK B (W.putObj DD (.deferred none)) g l'∧Out l (bJ (d+1) x) l'∧l'.length≤140000∧WFr 5 g w (W.putObj DD (.deferred none)) from ⟨l',st9,ho9,q3,fr9⟩)
  clear q1 q2 q4 hgr hrow st9 fr9 ho9 hxs
  show bodyPostM _ _ _ _ _ Exit.normal _ _
  refine ⟨by simp,.inl ⟨_,_,rfl,run_takeDeferred hK,?_⟩⟩
  exact ⟨_,results_none rfl _ _ _,rfl,F.o⟩
 case stop=>
  rintro DD c pre W hD hpre ⟨rfl,l',q1,q2,q3,q4,q5⟩ hK;have hgr:=grownBy_putObj' W DD (.deferred none);have hrow:∀r,some DD=some r→∃o:Obj,W.heap[r]?=some o∧o.isCells=false:=fun r e=>by cases e;exact ⟨_,hK,rfl⟩
  have st9:=rJ q1 hgr hrow;have fr9:=rO (hfr7.trans q5) HBW.o.2 hg7 hgr (fun r e=>by cases e;exact hD) q5.1.size
  have ho9:Out l (bJ (d+1) x) l':=by
   rw [rK hv];have q6:=q2.cut q3 (vX (f:=bJ d) hpre);rw [HL2.o] at q6;rw [Aj] at q6;exact SK q6
  have F:=Hh (show ∃l',RK B (W.putObj DD (.deferred none)) g l'∧Out l (bJ (d+1) x) l'∧l'.length≤140000∧WFr 5 g w (W.putObj DD (.deferred none)) from ⟨l',st9,ho9,q4,fr9⟩)
  clear q1 q2 q5 hgr hrow st9 fr9 ho9 hpre;refine wpIn_ret ?_
  show bodyPostM _ _ _ _ _ Exit.ret _ _
  refine ⟨by simp,.inl ⟨_,_,rfl,run_takeDeferred hK,?_⟩⟩
  exact ⟨_,results_none rfl _ _ _,rfl,F.o⟩
theorem BQ:∀d,GN d
 | 0=>fun D S cs x w B g l _ _ _ _ _ hv=>by cases hv
 | d+1=>NI (BQ d)
end Go.Proofs.YtncdpanfefnjlaaGreatDoor