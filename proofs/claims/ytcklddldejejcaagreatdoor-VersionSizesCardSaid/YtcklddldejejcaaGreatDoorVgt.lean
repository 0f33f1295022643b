/- The program's Fit. -/
import Derived.Test.YtcklddldejejcaaGreatDoorNrc
import Derived.Test.YtcklddldejejcaaGreatDoorVwi
set_option linter.unusedVariables false
set_option linter.unusedSimpArgs false
set_option maxHeartbeats 3200000
set_option maxRecDepth 100000
namespace Go.Proofs.YtcklddldejejcaaGreatDoor
open Go Go.ChangeShapes Go.WideShapes Go.ChangeAt Go.RowKit
def FtPost (d:Nat) (x:ND) (p:ByteArray) (k:Int) (w:World) (e:Ending) (w':World):Prop:=∃cs:List Value,e=.returned (.tuple #[.agg cs.toArray,.string (fitS x p k),.int .i64 (fitE x p k)])∧NodeIn d (fun b=>w.heap.size≤b∧b<w'.heap.size) w' cs (fitX x p k)∧Below w.heap.size w w'
theorem ft_none {d:Nat} {x:ND} {p:ByteArray} {k er:Int} {w w':World} {e:Ending} (he:fitE x p k=er) (h0:er ≠ 0) (h:e=.returned (.tuple #[.agg #[.int .i64 0,.bool false,.int .i64 0,.string ⟨#[]⟩,.slice none 0 0,.slice none 0 0],.string ⟨#[]⟩,.int .i64 er])) (hb:Below w.heap.size w w'):FtPost (d+1) x p k w e w':=by
 have e1:fitX x p k=nd0:=by unfold fitX;rw [he,if_neg h0]
 have e2:fitS x p k=⟨#[]⟩:=by unfold fitS;rw [he,if_neg h0]
 rw [FtPost,e1,e2,he]
 exact ⟨[.int .i64 0,.bool false,.int .i64 0,.string ⟨#[]⟩,.slice none 0 0,.slice none 0 0],h,(node_leaf _ w' 0 false 0 ⟨#[]⟩ (by decide)).deeper (show 1≤d+1 by omega),hb⟩
structure FtW (w:World) (cx:Array Value) (gv:Nat) (V:VD) (wr:World):Prop where
 box:wr.heap[w.heap.size]?=some (.cells cx 28 (0,0))
 res:wr.heap[w.heap.size+1]?=some (.cells #[.int .i64 0,.bool false,.int .i64 0,.string ⟨#[]⟩,.slice none 0 0,.slice none 0 0] 28 (0,0))
 ver:wr.heap[gv]?=some (.cells #[.string V.p,.int .i64 V.a,.int .i64 V.b,.int .i64 V.f,.int .i64 V.z] 37 (0,0))
 lo:w.heap.size+2≤gv
 bel:Below w.heap.size w wr
theorem FtW.step {w wr wn:World} {cx:Array Value} {gv:Nat} {V:VD} (h:FtW w cx gv V wr) (hb:Below wr.heap.size wr wn):FtW w cx gv V wn:=
 ⟨(hb.block _ (lt_of_block h.box)).trans h.box,(hb.block _ (lt_of_block h.res)).trans h.res,(hb.block _ (lt_of_block h.ver)).trans h.ver,h.lo,h.bel.trans (hb.mono h.bel.size)⟩
theorem FtW.size {w wr:World} {cx:Array Value} {gv:Nat} {V:VD} (h:FtW w cx gv V wr) (z:Int):FtW w cx gv { V with z:=z } (wr.setCell ⟨gv,4,none⟩ (.int .i64 z)):=by
 have hlo:=h.lo
 have hb:=h.bel
 have hne:∀i,i ≠ gv→(wr.setCell ⟨gv,4,none⟩ (.int .i64 z)).heap[i]?=wr.heap[i]?:=fun i hi=>heap_setCell_other wr ⟨gv,4,none⟩ i _ hi
 exact ⟨(hne _ (by omega)).trans h.box,(hne _ (by omega)).trans h.res,heap_set h.ver _,hlo,hb.grown (grown_set wr gv 4 _) hb.size (fun g e=>by have:=Option.some.inj (show some gv=some g from e);omega)⟩
theorem FtW.end_ {w wr:World} {cx:Array Value} {gv:Nat} {V:VD} (h:FtW w cx gv V wr) (a b c d e f:Value):Below w.heap.size w (set6 wr (w.heap.size+1) a b c d e f):=
 h.bel.grown (grown_set6 wr _ a b c d e f) h.bel.size (fun g e=>by have:=Option.some.inj (show some (w.heap.size+1)=some g from e);omega)
theorem ret_node3 {f:Func} {Q:Ending→World→Prop} {a:Act} {w:World} {g c s s2:Nat} {x0 x1 x2 x3 x4 x5 v v2 y0 y1 y2 y3 y4 y5:Value} (h:w.heap[g]?=some (.cells #[y0,y1,y2,y3,y4,y5] 28 (0,0))) (hres:f.results=#[.cell c 28,.tmp s,.tmp s2]) (hc:a.tmps.getD c undef=.pointer (some ⟨g,0,none⟩)) (hs:a.tmps.getD s undef=v) (hs2:a.tmps.getD s2 undef=v2) (hd:a.defers=[])
 (hQ:Q (.returned (.tuple #[.agg #[x0,x1,x2,x3,x4,x5],v,v2])) (set6 w g x0 x1 x2 x3 x4 x5)):bodyPost Tryz.prog f Q .ret a (set6 w g x0 x1 x2 x3 x4 x5):=by
 refine bodyPost_ret (v:=.tuple #[.agg #[x0,x1,x2,x3,x4,x5],v,v2]) ?_ hd hQ
 obtain ⟨q0,q1,q2,q3,q4,q5⟩:=six_of (six_put h x0 x1 x2 x3 x4 x5)
 obtain ⟨tm,df⟩:=a
 simp only [Array.getD_eq_getD_getElem?] at hc hs hs2
 simp [results,hres,go_sem,hc,hs,hs2,q0,q1,q2,q3,q4,q5]
theorem map_slices {d:Nat} {S:Nat→Prop} {w:World} {cs:List Value} {ns:List ByteArray} {its:List ND} (h:NodeIn d S w cs (.mk 5 false 0 ⟨#[]⟩ ns its)):∃a1 l1 c1 a2 l2 c2,cs=[.int .i64 5,.bool false,.int .i64 0,.string ⟨#[]⟩,.slice a1 l1 c1,.slice a2 l2 c2]:=h.slices
theorem low_text {d:Nat} (t:ByteArray):lowN d (tN t):=by
 cases d with
 | zero=>trivial
 | succ d=>exact ⟨by simp [tN,ND.names],by simp [tN,ND.items],fun y hy=>by simp [tN,ND.items] at hy⟩
theorem low_with {d:Nat} {x:ND} (t:ByteArray) (h:lowN (d+1) x) (hs:x.items.length≤999999):lowN (d+1) (withV x t):=by
 have hk:=keep_length x.names x.items
 refine ⟨by rw [(keep_fst x t).1];omega,by rw [(keep_fst x t).2];omega,fun y hy=>?_⟩
 rcases List.mem_cons.1 (show y ∈ tN t::(keepL x.names x.items).map (·.2) from hy) with rfl | hy
 ·exact low_text t
 ·obtain ⟨q,hq,rfl⟩:=List.mem_map.1 hy
  exact h.2.2 _ (keep_mem hq).2.1
theorem vfit_any {d:Nat} {S:Nat→Prop} (cs:List Value) (x:ND) (p:ByteArray) (k:Int) (hk:wI k) (w:World) (h:NodeIn (d+1) S w cs x) (hS:∀b,S b→b<w.heap.size) (hlow:lowN (d+1) x) (hd:1≤d) (hF:validN 8 x=true→x.kind=5→FitOk x) (hT:Ftab w) (hD:DB w) :
 Calls Tryz.prog 14 #[.agg cs.toArray,.string p,.int .i64 k] w (FtPost (d+1) x p k w):=by
 obtain ⟨a1,l1,c1,a2,l2,c2,rfl⟩:=h.slices
 obtain ⟨w1,hw1⟩:∃W,W=(w.alloc (.cells #[.int .i64 x.kind,.bool x.bool,.int .i64 x.num,.string x.text,.slice a1 l1 c1,.slice a2 l2 c2] 28)).alloc (.cells #[.int .i64 0,.bool false,.int .i64 0,.string ⟨#[]⟩,.slice none 0 0,.slice none 0 0] 28):=⟨_,rfl⟩
 have z1:(w.alloc (.cells #[.int .i64 x.kind,.bool x.bool,.int .i64 x.num,.string x.text,.slice a1 l1 c1,.slice a2 l2 c2] 28)).heap.size=w.heap.size+1:=by simp
 have b1:Below w.heap.size w w1:=by rw [hw1];exact ((Br _ _).alloc (Lr _) _).alloc (by simp) _
 have k0:w1.heap[w.heap.size]?=some (.cells #[.int .i64 x.kind,.bool x.bool,.int .i64 x.num,.string x.text,.slice a1 l1 c1,.slice a2 l2 c2] 28 (0,0)):=by rw [hw1];exact (Below.heap_alloc _ _ _ (by omega)).trans (Hn _ _)
 have k1:w1.heap[w.heap.size+1]?=some (.cells #[.int .i64 0,.bool false,.int .i64 0,.string ⟨#[]⟩,.slice none 0 0,.slice none 0 0] 28 (0,0)):=by rw [hw1,←z1];exact Hn _ _
 have z3:w1.heap.size=w.heap.size+2:=by rw [hw1];simp
 have HK:=Hh hk
 have HN:=Hh h
 have HS:=Hh hS
 have HL:=Hh hlow
 have HT:=Hh hT
 have HD:=Hh hD
 have hV0:WideV ⟨p,1,0,k,0⟩:=⟨show wI 1 from by unfold wI;omega,show wI 0 from by unfold wI;omega,hk,show wI 0 from by unfold wI;omega⟩
 have HV0:=Hh hV0
 have FC:=Hh (fit_cases x p k fun a b=>(hF a b).1)
 have Z3:=Hh z3
 clear h hS hlow hT hD hF z1 hV0 z3
 go_enter Tryz.func14,Tryz.ntmps14
 go_upto_region 1 with fail
 rw [←hw1]
 clear hw1
 go_upto_region 2 with fail
 have b2:=(Br w1.heap.size w1).alloc (o:=.cells #[.string p,.int .i64 1,.int .i64 0,.int .i64 k,.int .i64 0] 37) (Lr _)
 have hW:FtW w #[.int .i64 x.kind,.bool x.bool,.int .i64 x.num,.string x.text,.slice a1 l1 c1,.slice a2 l2 c2] w1.heap.size ⟨p,1,0,k,0⟩ (w1.alloc (.cells #[.string p,.int .i64 1,.int .i64 0,.int .i64 k,.int .i64 0] 37)):=
  ⟨(b2.block _ (lt_of_block k0)).trans k0,(b2.block _ (lt_of_block k1)).trans k1,Hn w1 _,Nat.le_of_eq Z3.out.symm,b1.trans (b2.mono b1.size)⟩
 generalize w1.alloc _=w2 at hW ⊢
 generalize w1.heap.size=gv at hW ⊢
 have HW2:=Hh hW
 have c5:=five_of hW.ver
 have VV:Hid (Calls Tryz.prog 37 #[.agg #[.string p,.int .i64 1,.int .i64 0,.int .i64 k,.int .i64 0]] w2 fun e w'=>e=.returned (.bool (validV ⟨p,1,0,k,0⟩))∧Below w2.heap.size w2 w'):=Hh (vvalid_any ⟨p,1,0,k,0⟩ w2 HV0.out)
 clear hW b1 b2 k0 k1 hk
 rcases FC.out with ⟨f1,f2⟩ | ⟨f1,f2,f3⟩ | ⟨er,f4,f1,f2,f3,fo,f5,f6⟩ | ⟨f1,f2,f3,fo,f5,f6,f7,f8,f9⟩
 ·rw [f1] at VV
  have FE:=Hh f2
  clear FC f1 f2
  go_upto_region 3 with ((with_reducible refine (VV.out).mono ?_);rintro e w3 ⟨rfl,hb3⟩)
  have HW3:=Hh (HW2.out.step hb3)
  have f6:=free_six HW3.out.res
  have c6:=six_of HW3.out.res
  clear c5 VV hb3
  go_wp2
  refine ret_node3 (v:=.string ⟨#[]⟩) (v2:=.int .i64 2) HW3.out.res Tryz.results14 rfl rfl rfl rfl ?_
  exact ft_none FE.out (by decide) rfl (HW3.out.end_ _ _ _ _ _ _)
 ·rw [f1] at VV
  have FE:=Hh f3
  by_cases h5:x.kind=5
  ·have hnv:validN 8 x=false:=by
    cases e:validN 8 x with
    | false=>rfl
    | true=>exact absurd ⟨h5,e⟩ f2
   have IV:=Hh (fun (wx:World) (hb:Below w.heap.size w wx)=>isvalid_any _ x wx (HN.out.same fun b q=>hb.block b (HS.out b q)) (fun b q=>Ll (HS.out b q) hb.size) HL.out (HT.out.below hb).u)
   rw [hnv] at IV
   rw [h5] at IV HW2
   rw [h5]
   clear FC f1 f2 f3 h5 hnv
   go_upto_region 4 with ((with_reducible refine (VV.out).mono ?_);rintro e w3 ⟨rfl,hb3⟩)
   have HW3:=Hh (HW2.out.step hb3)
   have cb:=six_of HW3.out.box
   clear c5 VV hb3
   go_upto_region 5 with ((with_reducible refine (IV.out _ HW3.out.bel).mono ?_);rintro e w4 ⟨rfl,hb4⟩)
   have HW4:=Hh (HW3.out.step hb4)
   have f6:=free_six HW4.out.res
   have c6:=six_of HW4.out.res
   clear cb IV hb4
   go_wp2
   refine ret_node3 (v:=.string ⟨#[]⟩) (v2:=.int .i64 1) HW4.out.res Tryz.results14 rfl rfl rfl rfl ?_
   exact ft_none FE.out (by decide) rfl (HW4.out.end_ _ _ _ _ _ _)
  ·clear FC f1 f2 f3
   go_upto_region 4 with ((with_reducible refine (VV.out).mono ?_);rintro e w3 ⟨rfl,hb3⟩)
   have HW3:=Hh (HW2.out.step hb3)
   have cb:=six_of HW3.out.box
   have f6:=free_six HW3.out.res
   have c6:=six_of HW3.out.res
   clear c5 VV hb3
   go_wp2
   refine ret_node3 (v:=.string ⟨#[]⟩) (v2:=.int .i64 1) HW3.out.res Tryz.results14 rfl rfl rfl rfl ?_
   exact ft_none FE.out (by decide) rfl (HW3.out.end_ _ _ _ _ _ _)
 all_goals
  have hval:validV ⟨p,1,0,k,0⟩=true:=f1
  have h5:x.kind=5:=f2
  have hnv:validN 8 x=true:=f3
  have hm:MapOk 7 x:=(mapOk_iff h5).1 hnv
  rw [f1] at VV
  have IV:=Hh (fun (wx:World) (hb:Below w.heap.size w wx)=>isvalid_any _ x wx (HN.out.same fun b q=>hb.block b (HS.out b q)) (fun b q=>Ll (HS.out b q) hb.size) HL.out (HT.out.below hb).u)
  rw [hnv] at IV
  have WV:=Hh (fun (V:VD) (hv:validV V=true) (hw:WideV V) (wx:World) (hb:Below w.heap.size w wx)=>withv_any _ x V wx (HN.out.same fun b q=>hb.block b (HS.out b q)) (fun b q=>Ll (HS.out b q) hb.size) HL.out hm.len hd hw (by rw [(vt_ok hv).2.1];decide) (HD.out.below hb))
  rw [h5] at IV HW2 WV
  rw [h5]
  have HVAL:=Hh hval
  have HM:=Hh hm
  have hlw:∀t,lowN (d+1) (withV x t):=fun t=>low_with t HL.out (by have:=hm.most;omega)
  have HLW:=Hh hlw
  clear FC f1 f2 f3 h5 hnv hval hm hlw
  go_upto_region 4 with ((with_reducible refine (VV.out).mono ?_);rintro e w3 ⟨rfl,hb3⟩)
  have HW3:=Hh (HW2.out.step hb3)
  have cb:=six_of HW3.out.box
  clear c5 VV hb3
  go_upto_region 6 with ((with_reducible refine (IV.out _ HW3.out.bel).mono ?_);rintro e w4 ⟨rfl,hb4⟩)
  have HW4:=Hh (HW3.out.step hb4)
  have cb4:=six_of HW4.out.box
  have cv4:=five_of HW4.out.ver
  clear cb IV hb4
  have WV0:Hid (Calls Tryz.prog 40 #[.agg #[.int .i64 5,.bool x.bool,.int .i64 x.num,.string x.text,.slice a1 l1 c1,.slice a2 l2 c2],.agg #[.string p,.int .i64 1,.int .i64 0,.int .i64 k,.int .i64 0]] w4 (WvPost (d+1) w4 (withV x (fitT p k 0)))):=Hh (WV.out ⟨p,1,0,k,0⟩ HVAL.out HV0.out w4 HW4.out.bel)
 ·have FE:=Hh f6
  have FO:=Hh f5
  have EN:=Hh (fun (wx:World) (vn vi:Value) (hn:NodeIn (d+1) (fun b=>b<wx.heap.size) wx [.int .i64 5,.bool false,.int .i64 0,.string ⟨#[]⟩,vn,vi] (withV x (fitT p k 0))) (hb:Below w.heap.size w wx)=>encas_any k _ _ wx hn (fun b q=>q) (lowV_of_lowN (HLW.out _)) (fun hv=>withV_nums fo) (HT.out.below hb))
  rw [f5] at EN
  rcases f4 with ⟨-,rfl⟩ | ⟨-,rfl⟩
  all_goals
   clear fo f5 f6
   go_upto_region 7 with (first
    | (go_at_call 40;(with_reducible refine (WV0.out).mono ?_);rintro e w5 ⟨vn,vi,rfl,hn5,hb5⟩)
    | (go_at_call 39;(with_reducible refine (EN.out w5 vn vi hn5 (HW4.out.step hb5).bel).mono ?_);rintro e w6 ⟨rfl,hb6⟩))
   have HW6:=Hh ((HW4.out.step hb5).step hb6)
   have f6:=free_six HW6.out.res
   have c6:=six_of HW6.out.res
   clear cb4 cv4 WV0 EN hn5 hb5 hb6
   go_wp2
   refine ret_node3 (v:=.string ⟨#[]⟩) (v2:=.int .i64 _) HW6.out.res Tryz.results14 rfl rfl rfl rfl ?_
   exact ft_none FE.out (by decide) rfl (HW6.out.end_ _ _ _ _ _ _)
 ·have FE:=Hh f9
  have HK1:=Hh f7
  have hf0:=f5.err.1
  have EN:=Hh (fun (wx:World) (vn vi:Value) (hn:NodeIn (d+1) (fun b=>b<wx.heap.size) wx [.int .i64 5,.bool false,.int .i64 0,.string ⟨#[]⟩,vn,vi] (withV x (fitT p k 0))) (hb:Below w.heap.size w wx)=>encas_any k _ _ wx hn (fun b q=>q) (lowV_of_lowN (HLW.out _)) (fun hv=>f5.nums) (HT.out.below hb))
  rw [hf0] at EN
  have hf1:=f7.err.1
  have HF1:=Hh hf1
  have HV1:=Hh f6
  clear fo f5 f6 f7 f8 f9 hf0 hf1
  go_upto_region 7 with (first
   | (go_at_call 40;(with_reducible refine (WV0.out).mono ?_);rintro e w5 ⟨vn,vi,rfl,hn5,hb5⟩)
   | (go_at_call 39;(with_reducible refine (EN.out w5 vn vi hn5 (HW4.out.step hb5).bel).mono ?_);rintro e w6 ⟨rfl,hb6⟩))
  have HW6:=Hh ((HW4.out.step hb5).step hb6)
  clear cb4 cv4 WV0 EN hn5 hb5 hb6
  have cv6:=five_of HW6.out.ver
  have fv6:=free_five HW6.out.ver
  go_upto_region 10 with fail
  have HW7:=Hh (HW6.out.size (vfZ x p k))
  clear cv6 fv6 HW6
  have hz7:((foS k (withV x (fitT p k 0))).size:Int)=vfZ x p k:=rfl
  rw [hz7]
  generalize w6.setCell ⟨gv,4,none⟩ (.int .i64 (vfZ x p k))=w7 at HW7 ⊢
  clear hz7
  have cb7:=six_of HW7.out.box
  have cv7:=five_of HW7.out.ver
  have WV1:Hid (Calls Tryz.prog 40 #[.agg #[.int .i64 5,.bool x.bool,.int .i64 x.num,.string x.text,.slice a1 l1 c1,.slice a2 l2 c2],.agg #[.string p,.int .i64 1,.int .i64 0,.int .i64 k,.int .i64 (vfZ x p k)]] w7 (WvPost (d+1) w7 (fitN x p k))):=Hh (WV.out ⟨p,1,0,k,vfZ x p k⟩ HV1.out ⟨show wI 1 from by unfold wI;omega,show wI 0 from by unfold wI;omega,HK.out,show wI (vfZ x p k) from by have:=(validV_parts HV1.out).2.2.2.2;simp only at this;unfold wI;omega⟩ w7 HW7.out.bel)
  go_upto_region 11 with ((with_reducible refine (WV1.out).mono ?_);rintro e w8 ⟨vn',vi',rfl,hn8,hb8⟩;obtain ⟨a3,l3,c3,a4,l4,c4,e8⟩:=hn8.slices;simp only [List.cons.injEq,and_true] at e8;obtain ⟨-,-,-,-,rfl,rfl⟩:=e8)
  have b9:=(Br w8.heap.size w8).alloc (o:=.cells #[.int .i64 5,.bool false,.int .i64 0,.string ⟨#[]⟩,.slice a3 l3 c3,.slice a4 l4 c4] 28) (Lr _)
  have k9:=Hn w8 (.cells #[.int .i64 5,.bool false,.int .i64 0,.string ⟨#[]⟩,.slice a3 l3 c3,.slice a4 l4 c4] 28)
  have hn9:=hn8.same (w':=w8.alloc (.cells #[.int .i64 5,.bool false,.int .i64 0,.string ⟨#[]⟩,.slice a3 l3 c3,.slice a4 l4 c4] 28)) fun b q=>b9.block b q
  have HW9:=Hh ((HW7.out.step hb8).step b9)
  have hsz9:=b9.size
  generalize w8.alloc _=w9 at b9 k9 hn9 HW9 hsz9 ⊢
  generalize w8.heap.size=g9 at *
  have c9:=six_of k9
  obtain ⟨_,_,e9,-,hns9,his9⟩:=hn9
  simp only [List.cons.injEq,and_true,true_and] at e9
  obtain ⟨-,-,-,-,rfl,rfl⟩:=e9
  have NM:=Hh (nmap_any d (fun b=>b<w9.heap.size) _ _ _ _ w9 (his9.mono (fun b q=>Ll q hsz9) fun cs y q=>q.mono fun b q=>Ll q hsz9) (hns9.mono fun b q=>Ll q hsz9) (fun b q=>q) (HLW.out _).2.1 (HLW.out _).1 (HLW.out _).2.2)
  clear cb7 cv7 WV1 hn8 hb8 b9 hns9 his9 hsz9 k9
  go_upto_region 12 with ((with_reducible refine (NM.out).mono ?_);rintro e w10 ⟨cf,rfl,hn10,hb10⟩;obtain ⟨a5,l5,c5,a6,l6,c6,rfl⟩:=map_slices hn10)
  have b11:=(Br w10.heap.size w10).alloc (o:=.cells #[.int .i64 5,.bool false,.int .i64 0,.string ⟨#[]⟩,.slice a5 l5 c5,.slice a6 l6 c6] 28) (Lr _)
  have k11:=Hn w10 (.cells #[.int .i64 5,.bool false,.int .i64 0,.string ⟨#[]⟩,.slice a5 l5 c5,.slice a6 l6 c6] 28)
  have HW11:=Hh ((HW9.out.step hb10).step b11)
  have hn11:NodeIn (d+1) (fun b=>Fr w9.heap.size w10 b) (w10.alloc (.cells #[.int .i64 5,.bool false,.int .i64 0,.string ⟨#[]⟩,.slice a5 l5 c5,.slice a6 l6 c6] 28)) [.int .i64 5,.bool false,.int .i64 0,.string ⟨#[]⟩,.slice a5 l5 c5,.slice a6 l6 c6] (fitN x p k):=hn10.same fun b q=>b11.block b q.2.1
  have hz11:w.heap.size+2≤w9.heap.size:=by have:=HW9.out.lo;have:=lt_of_block HW9.out.ver;omega
  have hs11:=b11.size
  have hn11:NodeIn (d+1) (fun b=>w.heap.size+2≤b∧b<(w10.alloc (.cells #[.int .i64 5,.bool false,.int .i64 0,.string ⟨#[]⟩,.slice a5 l5 c5,.slice a6 l6 c6] 28)).heap.size) (w10.alloc (.cells #[.int .i64 5,.bool false,.int .i64 0,.string ⟨#[]⟩,.slice a5 l5 c5,.slice a6 l6 c6] 28)) [.int .i64 5,.bool false,.int .i64 0,.string ⟨#[]⟩,.slice a5 l5 c5,.slice a6 l6 c6] (fitN x p k):=hn11.mono fun b q=>⟨Nat.le_trans hz11 q.1,Ll q.2.1 hs11⟩
  generalize w10.alloc _=w11 at k11 HW11 hn11 hs11 ⊢
  generalize w10.heap.size=g11 at *
  have c11:=six_of k11
  have K11:=Hh k11
  have HN11:=Hh hn11
  have EF:=Hh (encas_any k _ _ w11 hn11 (fun b q=>q.2) (lowV_of_lowN (HLW.out _)) (fun hv=>HK1.out.nums) (HT.out.below HW11.out.bel))
  rw [show foE k (fitN x p k)=0 from HF1.out] at EF
  clear c9 NM hn10 hb10 b11 k11 hn11 hz11 hs11
  go_upto_region 13 with ((with_reducible refine (EF.out).mono ?_);rintro e w12 ⟨rfl,hb12⟩)
  have HW12:=Hh (HW11.out.step hb12)
  have c12:=six_of ((hb12.block _ (lt_of_block K11.out)).trans K11.out)
  have HN12:=Hh (HN11.out.same (w':=w12) fun b q=>hb12.block b q.2)
  have hs12:=hb12.size
  have f6:=free_six HW12.out.res
  have c6':=six_of HW12.out.res
  clear c11 EF hb12
  go_wp2
  refine ret_node3 (v:=.string (foS k (fitN x p k))) (v2:=.int .i64 0) HW12.out.res Tryz.results14 rfl rfl rfl rfl ?_
  have hg:=grown_set6 w12 (w.heap.size+1) (.int .i64 5) (.bool false) (.int .i64 0) (.string ⟨#[]⟩) (.slice a5 l5 c5) (.slice a6 l6 c6)
  refine ⟨[.int .i64 5,.bool false,.int .i64 0,.string ⟨#[]⟩,.slice a5 l5 c5,.slice a6 l6 c6],?_,?_,HW12.out.end_ _ _ _ _ _ _⟩
  ·unfold fitS
   rw [FE.out,if_pos rfl]
  ·have e1:fitX x p k=fitN x p k:=by unfold fitX;rw [FE.out,if_pos rfl]
   rw [e1]
   exact (HN12.out.same fun b q=>hg.block b (Ll q.2 hs12) (by intro e;have:=Option.some.inj e;omega)).mono fun b q=>⟨by have:=q.1;omega,Ll (Ll q.2 hs12) hg.size⟩
def GtPost (d:Nat) (w:World) (y:ND) (e:Ending) (w':World):Prop:=∃cs:List Value,e=.returned (.tuple #[.agg cs.toArray,.bool true])∧NodeIn d (fun b=>w.heap.size≤b∧b<w'.heap.size) w' cs y∧Below w.heap.size w w'
theorem rget_has {d i:Nat} {S:Nat→Prop} (cs:List Value) (x y:ND) (s:ByteArray) (w:World) (h:NodeIn (d+1) S w cs x) (hS:∀b,S b→b<w.heap.size) (hlow:lowN (d+1) x) (h5:x.kind=5) (hlen:x.names.length=x.items.length) (hn:x.names.Nodup) (h0:x.names[i]?=some s) (hy:x.items[i]?=some y) :
 Calls Tryz.prog 18 #[.agg cs.toArray,.string s] w (GtPost d w y):=by
 obtain ⟨a1,l1,c1,a2,l2,c2,rfl⟩:=h.slices
 obtain ⟨_,_,e,ht,hns,his⟩:=h
 simp only [List.cons.injEq,and_true,true_and] at e
 obtain ⟨rfl,rfl⟩:=e
 rw [h5]
 obtain ⟨w1,hw1⟩:∃W,W=(w.alloc (.cells #[.int .i64 5,.bool x.bool,.int .i64 x.num,.string x.text,.slice a1 l1 c1,.slice a2 l2 c2] 28)).alloc (.cells #[.int .i64 0,.bool false,.int .i64 0,.string ⟨#[]⟩,.slice none 0 0,.slice none 0 0] 28):=⟨_,rfl⟩
 have z1:(w.alloc (.cells #[.int .i64 5,.bool x.bool,.int .i64 x.num,.string x.text,.slice a1 l1 c1,.slice a2 l2 c2] 28)).heap.size=w.heap.size+1:=by simp
 have b1:Below w.heap.size w w1:=by rw [hw1];exact ((Br _ _).alloc (Lr _) _).alloc (by simp) _
 have k0:w1.heap[w.heap.size]?=some (.cells #[.int .i64 5,.bool x.bool,.int .i64 x.num,.string x.text,.slice a1 l1 c1,.slice a2 l2 c2] 28 (0,0)):=by rw [hw1];exact (Below.heap_alloc _ _ _ (by omega)).trans (Hn _ _)
 have k1:w1.heap[w.heap.size+1]?=some (.cells #[.int .i64 0,.bool false,.int .i64 0,.string ⟨#[]⟩,.slice none 0 0,.slice none 0 0] 28 (0,0)):=by rw [hw1,←z1];exact Hn _ _
 have hl1:l1=x.names.length:=by obtain ⟨_,_,e,-⟩:=hns;simp only [Value.slice.injEq] at e;exact e.2.1
 have hl2:l2=x.items.length:=by obtain ⟨_,_,e,-⟩:=his;simp only [Value.slice.injEq] at e;exact e.2.1
 subst hl1 hl2
 have HS:=Hh hS
 have HL:=Hh hlow
 have HNS:=Hh hns
 have HIS:=Hh his
 have HB1:=Hh b1
 have HLEN:=Hh hlen
 have HN:=Hh hn
 have H0:=Hh h0
 have HY:=Hh hy
 have K0:=Hh k0
 have K1:=Hh k1
 have hln:=hlow.1
 have cb:=six_of k0
 clear hS hlow hns his b1 hlen hn h0 hy k0 k1 z1 ht h5
 go_enter Tryz.func18,Tryz.ntmps18
 go_upto_region 1 with fail
 rw [←hw1]
 clear hw1
 go_upto_region 2 with fail
 go_loopw [11] (fun i' wr=>∃j:Nat,i'=.int .i64 j∧j≤i∧wr=w1) (fun i' _=>i+1 - (intOf i').toNat)
 case atStart=>exact ⟨0,rfl,Nat.zero_le _,rfl⟩
 case round=>
  obtain ⟨j,rfl,hj,rfl⟩:=hrel
  have hi:=lt_of_some H0.out
  have hlt':(j:Int)<(x.names.length:Int):=by omega
  have hj0:(0:Int)≤(j:Int):=by omega
  have hji:j<x.items.length:=by have:=HLEN.out;omega
  have hlt2:(j:Int)<(x.items.length:Int):=by omega
  have hjm:(x.names.length:Int)≤1000000:=by omega
  obtain ⟨r,hsn⟩:∃r,x.names[j]?=some r:=⟨_,List.getElem?_eq_getElem (by omega)⟩
  obtain ⟨bq,oq,rfl,hSq,hcq⟩:=HNS.out.get hsn
  have rq:=(HB1.out.cell (p:=⟨bq,oq+j,none⟩) (HS.out _ hSq)).trans hcq
  have HSN:=Hh hsn
  clear hsn hcq hSq
  by_cases hji2:j=i
  ·have hrs:r=s:=by have h1:=HSN.out;rw [hji2,H0.out] at h1;exact (Option.some.inj h1).symm
   have e1:(r.toList == s.toList)=true:=str_beq hrs
   obtain ⟨-,-,-,b,off,y',b1,m1,n1,b2,m2,n2,rfl,hSb,hx,hnd,q0,q1,q2,q3,q4,q5⟩:=HIS.out.at hji
   obtain rfl:y'=y:=by have h1:=HY.out;rw [←hji2,hx] at h1;exact Option.some.inj h1
   have hbw:=HS.out b hSb
   have r0:=(HB1.out.cell (p:=⟨b,off+j * 6,none⟩) hbw).trans q0
   have r1:=(HB1.out.cell (p:=⟨b,off+j * 6+1,none⟩) hbw).trans q1
   have r2:=(HB1.out.cell (p:=⟨b,off+j * 6+2,none⟩) hbw).trans q2
   have r3:=(HB1.out.cell (p:=⟨b,off+j * 6+3,none⟩) hbw).trans q3
   have r4:=(HB1.out.cell (p:=⟨b,off+j * 6+4,none⟩) hbw).trans q4
   have r5:=(HB1.out.cell (p:=⟨b,off+j * 6+5,none⟩) hbw).trans q5
   have CC:=Hh (rcopy_any d S _ y' wr (hnd.same fun b q=>HB1.out.block b (HS.out b q)) (fun b q=>Ll (HS.out b q) HB1.out.size) (HL.out.2.2 y' (List.mem_of_getElem? hx)))
   clear hrs hji2 hx hnd q0 q1 q2 q3 q4 q5 hbw hSb
   go_upto_region 5 with fail
   go_wp2_with (go_at_call 46;(with_reducible refine (CC.out).mono ?_);rintro e w7 ⟨cy,rfl,hn7,hb7⟩;obtain ⟨b3,m3,n3,b4,m4,n4,rfl⟩:=hn7.slices;(have k7:=(hb7.block _ (lt_of_block K1.out)).trans K1.out);(have f7:=free_six k7);(have c7:=six_of k7);(have HK7:=Hh k7);clear k7)
   refine ret_node (v:=.bool true) HK7.out Tryz.results18 rfl rfl rfl ?_
   have hg:=grown_set6 w7 (w.heap.size+1) (.int .i64 y'.kind) (.bool y'.bool) (.int .i64 y'.num) (.string y'.text) (.slice b3 m3 n3) (.slice b4 m4 n4)
   have hz:w.heap.size+2≤wr.heap.size:=by have:=lt_of_block K1.out;omega
   exact ⟨_,rfl,(hn7.same fun b q=>hg.block b q.2.1 (by intro e;have:=Option.some.inj e;have:=q.1;omega)).mono fun b q=>⟨by have:=q.1;omega,Ll q.2.1 hg.size⟩,(HB1.out.trans (hb7.mono HB1.out.size)).grown hg (HB1.out.trans (hb7.mono HB1.out.size)).size fun k hk=>by have:=Option.some.inj (show some (w.heap.size+1)=some k from hk);omega⟩
  ·have hrs:r ≠ s:=fun e=>by
    have h1:=HSN.out
    rw [e] at h1
    exact hji2 ((List.getElem?_inj (by omega) HN.out).1 (h1.trans H0.out.symm))
   have e1:(r.toList == s.toList)=false:=str_bne hrs
   clear hrs
   go_wp2
   go_roundw
   case rel=>exact ⟨j+1,by go_num,by omega,trivial⟩
   case measure=>simp [intOf];omega
end Go.Proofs.YtcklddldejejcaaGreatDoor