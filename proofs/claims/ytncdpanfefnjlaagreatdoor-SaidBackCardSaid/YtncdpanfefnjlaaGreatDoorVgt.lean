import Derived.Test.YtncdpanfefnjlaaGreatDoorVwi
set_option linter.unusedVariables false
set_option linter.unusedSimpArgs false
set_option maxHeartbeats 3200000
set_option maxRecDepth 100000
namespace Go.Proofs.YtncdpanfefnjlaaGreatDoor
open Go.Proofs.Tryz
open Go Go.ChangeShapes Go.WideShapes Go.ChangeAt Go.RowKit
def GY (d:Nat) (x:ND) (p:Bt) (k:Int) (w:World) (e:Ending) (w':World):Prop:=∃cs:Vl,e=.returned (.tuple #[.agg cs.toArray,.string (mC x p k),Iz (fM x p k)])∧aC d (fun b=>w.heap.size≤b∧b<w'.heap.size) w' cs (jQ x p k)∧Below w.heap.size w w'
theorem wW {d:Nat} {x:ND} {p:Bt} {k er:Int} {w w':World} {e:Ending} (he:fM x p k=er) (h0:er ≠ 0) (h:e=.returned (.tuple #[.agg Z6,.string ⟨#[]⟩,Iz er])) (hb:Below w.heap.size w w'):GY (d+1) x p k w e w':=by
 have e1:jQ x p k=nd0:=by unfold jQ;rw [he,Af h0]
 have e2:mC x p k=⟨#[]⟩:=by unfold mC;rw [he,Af h0]
 rw [GY,e1,e2,he];exact ⟨Y6,h,(cC _ w' 0 false 0 ⟨#[]⟩ (by decide)).deeper (show 1≤d+1 by omega),hb⟩
structure FtW (w:World) (cx:Array Value) (gv:Nat) (V:VD) (wr:World):Prop where
 box:wr.heap[w.heap.size]?=some (.cells cx 28 (0,0))
 res:wr.heap[w.heap.size+1]?=some (.cells Z6 28 (0,0))
 ver:wr.heap[gv]?=some (.cells #[.string V.p,Iz V.a,Iz V.b,Iz V.f,Iz V.z] 58 (0,0))
 lo:w.heap.size+2≤gv
 bel:Below w.heap.size w wr
theorem FtW.step {w wr wn:World} {cx:Array Value} {gv:Nat} {V:VD} (h:FtW w cx gv V wr) (hb:Below wr.heap.size wr wn):FtW w cx gv V wn:=
 ⟨(hb.block _ (Aa h.box)).trans h.box,(hb.block _ (Aa h.res)).trans h.res,(hb.block _ (Aa h.ver)).trans h.ver,h.lo,h.bel.trans (hb.mono h.bel.size)⟩
theorem FtW.size {w wr:World} {cx:Array Value} {gv:Nat} {V:VD} (h:FtW w cx gv V wr) (z:Int):FtW w cx gv { V with z:=z } (wr.setCell ⟨gv,4,none⟩ (Iz z)):=by
 have hlo:=h.lo;have hb:=h.bel;have hne:∀i,i ≠ gv→(wr.setCell ⟨gv,4,none⟩ (Iz z)).heap[i]?=wr.heap[i]?:=fun i hi=>heap_setCell_other wr ⟨gv,4,none⟩ i _ hi
 exact ⟨(hne _ (by omega)).trans h.box,(hne _ (by omega)).trans h.res,dQ h.ver _,hlo,hb.grown (aR wr gv 4 _) hb.size (fun g e=>by have:=Ab (show some gv=some g from e);omega)⟩
theorem FtW.end_ {w wr:World} {cx:Array Value} {gv:Nat} {V:VD} (h:FtW w cx gv V wr) (a b c d e f:Value):Below w.heap.size w (dE wr (w.heap.size+1) a b c d e f):=
 h.bel.grown (aM wr _ a b c d e f) h.bel.size (fun g e=>by have:=Ab (show some (w.heap.size+1)=some g from e);omega)
theorem cU {f:Func} {Q:Ending→World→Prop} {a:Act} {w:World} {g c s s2:Nat} {x0 x1 x2 x3 x4 x5 v v2 y0 y1 y2 y3 y4 y5:Value} (h:w.heap[g]?=some (.cells #[y0,y1,y2,y3,y4,y5] 28 (0,0))) (hres:f.results=#[.cell c 28,.tmp s,.tmp s2]) (hc:a.tmps.getD c undef=.pointer (some ⟨g,0,none⟩)) (hs:a.tmps.getD s undef=v) (hs2:a.tmps.getD s2 undef=v2) (hd:a.defers=[])
 (hQ:Q (.returned (.tuple #[.agg #[x0,x1,x2,x3,x4,x5],v,v2])) (dE w g x0 x1 x2 x3 x4 x5)):bodyPost prog f Q .ret a (dE w g x0 x1 x2 x3 x4 x5):=by
 refine Ar (v:=.tuple #[.agg #[x0,x1,x2,x3,x4,x5],v,v2]) ?_ hd hQ;obtain ⟨q0,q1,q2,q3,q4,q5⟩:=aA (dB h x0 x1 x2 x3 x4 x5);obtain ⟨tm,df⟩:=a;simp only [Array.getD_eq_getD_getElem?] at hc hs hs2;simp [results,hres,go_sem,hc,hs,hs2,q0,q1,q2,q3,q4,q5]
theorem PL {d:Nat} {S:Nat→Prop} {w:World} {cs:Vl} {ns:List Bt} {its:List ND} (h:aC d S w cs (.mk 5 false 0 ⟨#[]⟩ ns its)):∃a1 l1 c1 a2 l2 c2,cs=[Iz 5,.bool false,Iz 0,.string ⟨#[]⟩,.slice a1 l1 c1,.slice a2 l2 c2]:=h.slices
theorem sM {d:Nat} (t:Bt):jG d (tN t):=by
 cases d with
 | zero=>trivial
 | succ d=>exact ⟨by simp [tN,ND.names],by simp [tN,ND.items],fun y hy=>by simp [tN,ND.items] at hy⟩
theorem aAx {d:Nat} {x:ND} (t:Bt) (h:jG (d+1) x) (hs:x.items.length≤999999):jG (d+1) (bI x t):=by
 have hk:=lX x.names x.items;refine ⟨by rw [(jB x t).1];omega,by rw [(jB x t).2];omega,fun y hy=>?_⟩
 rcases Bz.1 (show y ∈ tN t::(cK x.names x.items).map (·.2) from hy) with rfl | hy
 ·exact sM t
 ·obtain ⟨q,hq,rfl⟩:=Bl.1 hy
  exact h.2.2 _ (oK hq).2.1
theorem ZG {d:Nat} {S:Nat→Prop} (cs:Vl) (x:ND) (p:Bt) (k:Int) (hk:wI k) (w:World) (h:aC (d+1) S w cs x) (hS:∀b,S b→b<w.heap.size) (hlow:jG (d+1) x) (hd:1≤d) (hF:aB 8 x=true→x.kind=5→AT x) (hT:uX w) (hD:DB w) :
 Calls prog 25 #[.agg cs.toArray,.string p,Iz k] w (GY (d+1) x p k w):=by
 obtain ⟨a1,l1,c1,a2,l2,c2,rfl⟩:=h.slices;obtain ⟨w1,hw1⟩:∃W,W=(w.alloc (.cells #[Iz x.kind,.bool x.bool,Iz x.num,.string x.text,.slice a1 l1 c1,.slice a2 l2 c2] 28)).alloc (.cells Z6 28):=⟨_,rfl⟩;have z1:(w.alloc (.cells #[Iz x.kind,.bool x.bool,Iz x.num,.string x.text,.slice a1 l1 c1,.slice a2 l2 c2] 28)).heap.size=w.heap.size+1:=by simp
 have b1:Below w.heap.size w w1:=by rw [hw1];exact ((Br _ _).alloc (Lr _) _).alloc (by simp) _
 have k0:w1.heap[w.heap.size]?=some (.cells #[Iz x.kind,.bool x.bool,Iz x.num,.string x.text,.slice a1 l1 c1,.slice a2 l2 c2] 28 (0,0)):=by rw [hw1];exact (Bh _ _ _ (by omega)).trans (Hn _ _)
 have k1:w1.heap[w.heap.size+1]?=some (.cells Z6 28 (0,0)):=by rw [hw1,←z1];exact Hn _ _
 have z3:w1.heap.size=w.heap.size+2:=by rw [hw1];simp
 have HK:=Hh hk;have HN:=Hh h;have HS:=Hh hS;have HL:=Hh hlow;have HT:=Hh hT;have HD:=Hh hD;have hV0:AO ⟨p,1,0,k,0⟩:=⟨show wI 1 from by unfold wI;omega,show wI 0 from by unfold wI;omega,hk,show wI 0 from by unfold wI;omega⟩
 have HV0:=Hh hV0;have FC:=Hh (uL x p k fun a b=>(hF a b).1)
 have Z3:=Hh z3;clear h hS hlow hT hD hF z1 hV0 z3
 go_enter func25,ntmps25
 go_upto_region 1 with fail
 rw [←hw1];clear hw1
 go_upto_region 2 with fail
 have b2:=(Br w1.heap.size w1).alloc (o:=.cells #[.string p,Iz 1,Iz 0,Iz k,Iz 0] 58) (Lr _);have hW:FtW w #[Iz x.kind,.bool x.bool,Iz x.num,.string x.text,.slice a1 l1 c1,.slice a2 l2 c2] w1.heap.size ⟨p,1,0,k,0⟩ (w1.alloc (.cells #[.string p,Iz 1,Iz 0,Iz k,Iz 0] 58)):=
  ⟨(b2.block _ (Aa k0)).trans k0,(b2.block _ (Aa k1)).trans k1,Hn w1 _,Nat.le_of_eq Z3.o.symm,b1.trans (b2.mono b1.size)⟩
 generalize w1.alloc _=w2 at hW ⊢;generalize w1.heap.size=gv at hW ⊢;have HW2:=Hh hW;have c5:=dM hW.ver;have VV:Hid (Calls prog 43 #[.agg #[.string p,Iz 1,Iz 0,Iz k,Iz 0]] w2 fun e w'=>e=.returned (.bool (aU ⟨p,1,0,k,0⟩))∧Below w2.heap.size w2 w'):=Hh (qJ ⟨p,1,0,k,0⟩ w2 HV0.o)
 clear hW b1 b2 k0 k1 hk;rcases FC.o with ⟨f1,f2⟩ | ⟨f1,f2,f3⟩ | ⟨er,f4,f1,f2,f3,fo,f5,f6⟩ | ⟨f1,f2,f3,fo,f5,f6,f7,f8,f9⟩
 ·rw [f1] at VV
  have FE:=Hh f2;clear FC f1 f2
  go_upto_region 3 with ((with_reducible refine (VV.o).mono ?_);rintro e w3 ⟨rfl,hb3⟩)
  have HW3:=Hh (HW2.o.step hb3);have f6:=aD HW3.o.res;have c6:=aA HW3.o.res;clear c5 VV hb3
  go_wp2
  refine cU (v:=.string ⟨#[]⟩) (v2:=Iz 2) HW3.o.res results25 rfl rfl rfl rfl ?_;exact wW FE.o (by decide) rfl (HW3.o.end_ _ _ _ _ _ _)
 ·rw [f1] at VV
  have FE:=Hh f3
  by_cases h5:x.kind=5
  ·have hnv:aB 8 x=false:=by
    cases e:aB 8 x with
    | false=>rfl
    | true=>exact absurd ⟨h5,e⟩ f2
   have IV:=Hh (fun (wx:World) (hb:Below w.heap.size w wx)=>oL _ x wx (HN.o.same fun b q=>hb.block b (HS.o b q)) (fun b q=>Ll (HS.o b q) hb.size) HL.o (HT.o.below hb).u)
   rw [hnv] at IV;rw [h5] at IV HW2;rw [h5];clear FC f1 f2 f3 h5 hnv
   go_upto_region 4 with ((with_reducible refine (VV.o).mono ?_);rintro e w3 ⟨rfl,hb3⟩)
   have HW3:=Hh (HW2.o.step hb3);have cb:=aA HW3.o.box;clear c5 VV hb3
   go_upto_region 5 with ((with_reducible refine (IV.o _ HW3.o.bel).mono ?_);rintro e w4 ⟨rfl,hb4⟩)
   have HW4:=Hh (HW3.o.step hb4);have f6:=aD HW4.o.res;have c6:=aA HW4.o.res;clear cb IV hb4
   go_wp2
   refine cU (v:=.string ⟨#[]⟩) (v2:=Iz 1) HW4.o.res results25 rfl rfl rfl rfl ?_;exact wW FE.o (by decide) rfl (HW4.o.end_ _ _ _ _ _ _)
  ·clear FC f1 f2 f3
   go_upto_region 4 with ((with_reducible refine (VV.o).mono ?_);rintro e w3 ⟨rfl,hb3⟩)
   have HW3:=Hh (HW2.o.step hb3);have cb:=aA HW3.o.box;have f6:=aD HW3.o.res;have c6:=aA HW3.o.res;clear c5 VV hb3
   go_wp2
   refine cU (v:=.string ⟨#[]⟩) (v2:=Iz 1) HW3.o.res results25 rfl rfl rfl rfl ?_;exact wW FE.o (by decide) rfl (HW3.o.end_ _ _ _ _ _ _)
 all_goals
  have hval:aU ⟨p,1,0,k,0⟩=true:=f1;have h5:x.kind=5:=f2;have hnv:aB 8 x=true:=f3;have hm:cH 7 x:=(bY h5).1 hnv;rw [f1] at VV;have IV:=Hh (fun (wx:World) (hb:Below w.heap.size w wx)=>oL _ x wx (HN.o.same fun b q=>hb.block b (HS.o b q)) (fun b q=>Ll (HS.o b q) hb.size) HL.o (HT.o.below hb).u)
  rw [hnv] at IV;have WV:=Hh (fun (V:VD) (hv:aU V=true) (hw:AO V) (wx:World) (hb:Below w.heap.size w wx)=>UG _ x V wx (HN.o.same fun b q=>hb.block b (HS.o b q)) (fun b q=>Ll (HS.o b q) hb.size) HL.o hm.len hd hw (by rw [(vG hv).2.1];decide) (HD.o.below hb))
  rw [h5] at IV HW2 WV;rw [h5];have HVAL:=Hh hval;have HM:=Hh hm;have hlw:∀t,jG (d+1) (bI x t):=fun t=>aAx t HL.o (by have:=hm.most;omega)
  have HLW:=Hh hlw;clear FC f1 f2 f3 h5 hnv hval hm hlw
  go_upto_region 4 with ((with_reducible refine (VV.o).mono ?_);rintro e w3 ⟨rfl,hb3⟩)
  have HW3:=Hh (HW2.o.step hb3);have cb:=aA HW3.o.box;clear c5 VV hb3
  go_upto_region 6 with ((with_reducible refine (IV.o _ HW3.o.bel).mono ?_);rintro e w4 ⟨rfl,hb4⟩)
  have HW4:=Hh (HW3.o.step hb4);have cb4:=aA HW4.o.box;have cv4:=dM HW4.o.ver;clear cb IV hb4;have WV0:Hid (Calls prog 46 #[.agg #[Iz 5,.bool x.bool,Iz x.num,.string x.text,.slice a1 l1 c1,.slice a2 l2 c2],.agg #[.string p,Iz 1,Iz 0,Iz k,Iz 0]] w4 (GM (d+1) w4 (bI x (eV p k 0)))):=Hh (WV.o ⟨p,1,0,k,0⟩ HVAL.o HV0.o w4 HW4.o.bel)
 ·have FE:=Hh f6
  have FO:=Hh f5;have EN:=Hh (fun (wx:World) (vn vi:Value) (hn:aC (d+1) (fun b=>b<wx.heap.size) wx [Iz 5,.bool false,Iz 0,.string ⟨#[]⟩,vn,vi] (bI x (eV p k 0))) (hb:Below w.heap.size w wx)=>uN k _ _ wx hn (fun b q=>q) (fT (HLW.o _)) (fun hv=>gK fo) (HT.o.below hb))
  rw [f5] at EN;rcases f4 with ⟨-,rfl⟩ | ⟨-,rfl⟩
  all_goals
   clear fo f5 f6
   go_upto_region 7 with (first
    | (go_at_call 46;(with_reducible refine (WV0.o).mono ?_);rintro e w5 ⟨vn,vi,rfl,hn5,hb5⟩)
    | (go_at_call 45;(with_reducible refine (EN.o w5 vn vi hn5 (HW4.o.step hb5).bel).mono ?_);rintro e w6 ⟨rfl,hb6⟩))
   have HW6:=Hh ((HW4.o.step hb5).step hb6);have f6:=aD HW6.o.res;have c6:=aA HW6.o.res;clear cb4 cv4 WV0 EN hn5 hb5 hb6
   go_wp2
   refine cU (v:=.string ⟨#[]⟩) (v2:=Iz _) HW6.o.res results25 rfl rfl rfl rfl ?_;exact wW FE.o (by decide) rfl (HW6.o.end_ _ _ _ _ _ _)
 ·have FE:=Hh f9
  have HK1:=Hh f7;have hf0:=f5.err.1;have EN:=Hh (fun (wx:World) (vn vi:Value) (hn:aC (d+1) (fun b=>b<wx.heap.size) wx [Iz 5,.bool false,Iz 0,.string ⟨#[]⟩,vn,vi] (bI x (eV p k 0))) (hb:Below w.heap.size w wx)=>uN k _ _ wx hn (fun b q=>q) (fT (HLW.o _)) (fun hv=>f5.nums) (HT.o.below hb))
  rw [hf0] at EN;have hf1:=f7.err.1;have HF1:=Hh hf1;have HV1:=Hh f6;clear fo f5 f6 f7 f8 f9 hf0 hf1
  go_upto_region 7 with (first
   | (go_at_call 46;(with_reducible refine (WV0.o).mono ?_);rintro e w5 ⟨vn,vi,rfl,hn5,hb5⟩)
   | (go_at_call 45;(with_reducible refine (EN.o w5 vn vi hn5 (HW4.o.step hb5).bel).mono ?_);rintro e w6 ⟨rfl,hb6⟩))
  have HW6:=Hh ((HW4.o.step hb5).step hb6);clear cb4 cv4 WV0 EN hn5 hb5 hb6;have cv6:=dM HW6.o.ver;have fv6:=lA HW6.o.ver
  go_upto_region 10 with fail
  have HW7:=Hh (HW6.o.size (vfZ x p k));clear cv6 fv6 HW6;have hz7:((foS k (bI x (eV p k 0))).size:Int)=vfZ x p k:=rfl;rw [hz7];generalize w6.setCell ⟨gv,4,none⟩ (Iz (vfZ x p k))=w7 at HW7 ⊢;clear hz7;have cb7:=aA HW7.o.box;have cv7:=dM HW7.o.ver;have WV1:Hid (Calls prog 46 #[.agg #[Iz 5,.bool x.bool,Iz x.num,.string x.text,.slice a1 l1 c1,.slice a2 l2 c2],.agg #[.string p,Iz 1,Iz 0,Iz k,Iz (vfZ x p k)]] w7 (GM (d+1) w7 (aW x p k))):=Hh (WV.o ⟨p,1,0,k,vfZ x p k⟩ HV1.o ⟨show wI 1 from by unfold wI;omega,show wI 0 from by unfold wI;omega,HK.o,show wI (vfZ x p k) from by have:=(dA HV1.o).2.2.2.2;simp only at this;unfold wI;omega⟩ w7 HW7.o.bel)
  go_upto_region 11 with ((with_reducible refine (WV1.o).mono ?_);rintro e w8 ⟨vn',vi',rfl,hn8,hb8⟩;obtain ⟨a3,l3,c3,a4,l4,c4,e8⟩:=hn8.slices;simp only [Bq,Di] at e8;obtain ⟨-,-,-,-,rfl,rfl⟩:=e8)
  have b9:=(Br w8.heap.size w8).alloc (o:=.cells #[Iz 5,.bool false,Iz 0,.string ⟨#[]⟩,.slice a3 l3 c3,.slice a4 l4 c4] 28) (Lr _);have k9:=Hn w8 (.cells #[Iz 5,.bool false,Iz 0,.string ⟨#[]⟩,.slice a3 l3 c3,.slice a4 l4 c4] 28);have hn9:=hn8.same (w':=w8.alloc (.cells #[Iz 5,.bool false,Iz 0,.string ⟨#[]⟩,.slice a3 l3 c3,.slice a4 l4 c4] 28)) fun b q=>b9.block b q
  have HW9:=Hh ((HW7.o.step hb8).step b9);have hsz9:=b9.size;generalize w8.alloc _=w9 at b9 k9 hn9 HW9 hsz9 ⊢;generalize w8.heap.size=g9 at *;have c9:=aA k9;obtain ⟨_,_,e9,-,hns9,his9⟩:=hn9;simp only [Bq,Di,Dp] at e9;obtain ⟨-,-,-,-,rfl,rfl⟩:=e9;have NM:=Hh (aAr d (fun b=>b<w9.heap.size) _ _ _ _ w9 (his9.mono (fun b q=>Ll q hsz9) fun cs y q=>q.mono fun b q=>Ll q hsz9) (hns9.mono fun b q=>Ll q hsz9) (fun b q=>q) (HLW.o _).2.1 (HLW.o _).1 (HLW.o _).2.2)
  clear cb7 cv7 WV1 hn8 hb8 b9 hns9 his9 hsz9 k9
  go_upto_region 12 with ((with_reducible refine (NM.o).mono ?_);rintro e w10 ⟨cf,rfl,hn10,hb10⟩;obtain ⟨a5,l5,c5,a6,l6,c6,rfl⟩:=PL hn10)
  have b11:=(Br w10.heap.size w10).alloc (o:=.cells #[Iz 5,.bool false,Iz 0,.string ⟨#[]⟩,.slice a5 l5 c5,.slice a6 l6 c6] 28) (Lr _);have k11:=Hn w10 (.cells #[Iz 5,.bool false,Iz 0,.string ⟨#[]⟩,.slice a5 l5 c5,.slice a6 l6 c6] 28);have HW11:=Hh ((HW9.o.step hb10).step b11);have hn11:aC (d+1) (fun b=>Fr w9.heap.size w10 b) (w10.alloc (.cells #[Iz 5,.bool false,Iz 0,.string ⟨#[]⟩,.slice a5 l5 c5,.slice a6 l6 c6] 28)) [Iz 5,.bool false,Iz 0,.string ⟨#[]⟩,.slice a5 l5 c5,.slice a6 l6 c6] (aW x p k):=hn10.same fun b q=>b11.block b q.2.1
  have hz11:w.heap.size+2≤w9.heap.size:=by have:=HW9.o.lo;have:=Aa HW9.o.ver;omega
  have hs11:=b11.size;have hn11:aC (d+1) (fun b=>w.heap.size+2≤b∧b<(w10.alloc (.cells #[Iz 5,.bool false,Iz 0,.string ⟨#[]⟩,.slice a5 l5 c5,.slice a6 l6 c6] 28)).heap.size) (w10.alloc (.cells #[Iz 5,.bool false,Iz 0,.string ⟨#[]⟩,.slice a5 l5 c5,.slice a6 l6 c6] 28)) [Iz 5,.bool false,Iz 0,.string ⟨#[]⟩,.slice a5 l5 c5,.slice a6 l6 c6] (aW x p k):=hn11.mono fun b q=>⟨Ae hz11 q.1,Ll q.2.1 hs11⟩
  generalize w10.alloc _=w11 at k11 HW11 hn11 hs11 ⊢;generalize w10.heap.size=g11 at *;have c11:=aA k11;have K11:=Hh k11;have HN11:=Hh hn11;have EF:=Hh (uN k _ _ w11 hn11 (fun b q=>q.2) (fT (HLW.o _)) (fun hv=>HK1.o.nums) (HT.o.below HW11.o.bel))
  rw [show foE k (aW x p k)=0 from HF1.o] at EF
  clear c9 NM hn10 hb10 b11 k11 hn11 hz11 hs11
  go_upto_region 13 with ((with_reducible refine (EF.o).mono ?_);rintro e w12 ⟨rfl,hb12⟩)
  have HW12:=Hh (HW11.o.step hb12);have c12:=aA ((hb12.block _ (Aa K11.o)).trans K11.o);have HN12:=Hh (HN11.o.same (w':=w12) fun b q=>hb12.block b q.2)
  have hs12:=hb12.size;have f6:=aD HW12.o.res;have c6':=aA HW12.o.res;clear c11 EF hb12
  go_wp2
  refine cU (v:=.string (foS k (aW x p k))) (v2:=Iz 0) HW12.o.res results25 rfl rfl rfl rfl ?_;have hg:=aM w12 (w.heap.size+1) (Iz 5) (.bool false) (Iz 0) (.string ⟨#[]⟩) (.slice a5 l5 c5) (.slice a6 l6 c6);refine ⟨[Iz 5,.bool false,Iz 0,.string ⟨#[]⟩,.slice a5 l5 c5,.slice a6 l6 c6],?_,?_,HW12.o.end_ _ _ _ _ _ _⟩
  ·unfold mC
   rw [FE.o,Am rfl]
  ·have e1:jQ x p k=aW x p k:=by unfold jQ;rw [FE.o,Am rfl]
   rw [e1];exact (HN12.o.same fun b q=>hg.block b (Ll q.2 hs12) (by intro e;have:=Ab e;omega)).mono fun b q=>⟨by have:=q.1;omega,Ll (Ll q.2 hs12) hg.size⟩
def RSt (TN:TypeId) (d B:Nat) (w wr:World) (x:ND) (vn:Value) (j:Nat):Prop:=∃ (ai:Option Addr) (ci:Nat) (A:List NC),wr.heap[w.heap.size+1]?=some (.cells Z6 TN (0,0))∧wr.heap[w.heap.size]?=some (.cells #[Iz x.kind,.bool x.bool,Iz x.num,.string x.text,vn,.slice ai A.length ci] TN (0,0))∧gS TN d B none wr (.slice ai A.length ci) A∧aE A=x.items.take j∧Below w.heap.size w wr∧(∀y,y ∈ A→aC d (nK wr) wr y.1 y.2)∧bE (fun b=>Fr (w.heap.size+2) wr b∧b<B) wr vn x.names
theorem frB {base B:Nat} {w w':World} {row:Option Nat} {v:Value} {ns:List Bt} (h:bE (fun b=>Fr base w b∧b<B) w v ns) (hg:w.grownBy w' row) (hr:∀r,row=some r→r<base∨B≤r):bE (fun b=>Fr base w' b∧b<B) w' v ns:=
 have e:∀b,(Fr base w b∧b<B)→w'.heap[b]?=w.heap[b]?:=fun b hb=>hg.block b hb.1.2.1 (fun e=>by have h1:=hr b e.symm;have h2:=hb.1.1;have h3:=hb.2;omega)
 (h.same e).mono fun b hb=>⟨hb.1.move (e b hb) (Lr _) hg.size,hb.2⟩
def tF (TN:TypeId) (d:Nat) (w:World) (x:ND) (e:Ending) (w':World):Prop:=∃ (B:Nat) (vn:Value) (ai:Option Addr) (ci:Nat) (A:List NC),e=.returned (.agg #[Iz x.kind,.bool x.bool,Iz x.num,.string x.text,vn,.slice ai A.length ci])∧w.heap.size+2≤B∧x.text.size≤maxLen - 2∧bE (fun b=>Fr (w.heap.size+2) w' b∧b<B) w' vn x.names∧gS TN d B none w' (.slice ai A.length ci) A∧(∀y,y ∈ A→aC d (nK w') w' y.1 y.2)∧aE A=x.items∧Below w.heap.size w w'
theorem tF.new {TN:TypeId} {d:Nat} {w w':World} {x:ND} {e:Ending} (h:tF TN d w x e w'):nL (d+1) w x e w':=by
 obtain ⟨B,vn,ai,ci,A,rfl,hB,ht,hn,hr,hp,hA,hb⟩:=h;have hN:=hr.fr hp;rw [hA] at hN;have e2:∀b,Fr B w' b→Fr w.heap.size w' b:=fun b hb=>⟨by have:=hb.1;omega,hb.2⟩
 exact ⟨[Iz x.kind,.bool x.bool,Iz x.num,.string x.text,vn,.slice ai A.length ci],rfl,⟨_,_,rfl,ht,hn.mono fun b hb=>⟨by have:=hb.1.1;omega,hb.1.2⟩,hN.mono e2 fun cs y q=>q.mono e2⟩,hb⟩
theorem yM {d:Nat} (HC:∀ (S:Nat→Prop) (cs:Vl) (x:ND) (w:World),aC d S w cs x→(∀b,S b→b<w.heap.size)→jG d x→Calls prog 31 #[.agg cs.toArray] w (nL d w x))
 (S:Nat→Prop) (cs:Vl) (x:ND) (w:World) (h:aC (d+1) S w cs x) (hS:∀b,S b→b<w.heap.size) (hlow:jG (d+1) x):Calls prog 31 #[.agg cs.toArray] w (tF 28 d w x):=by
 obtain ⟨ip,hip,hz0,hz1,hz2⟩:=qD;obtain ⟨iq,hiq,hy0,hy1,hy2⟩:=qC;have hug:=underlying26;have hus:=underlying25;have HIP:=Hh hip;have HIQ:=Hh hiq;obtain ⟨a1,l1,c1,a2,l2,c2,rfl⟩:=h.slices;obtain ⟨vn,vi,e,ht,hns,his⟩:=h;simp only [Bq,Di,Dp] at e;obtain ⟨rfl,rfl⟩:=e;obtain ⟨w1,hw1⟩:∃W,W=(w.alloc (.cells #[Iz x.kind,.bool x.bool,Iz x.num,.string x.text,.slice a1 l1 c1,.slice a2 l2 c2] 28)).alloc (.cells Z6 28):=⟨_,rfl⟩;have hz:(w.alloc (.cells #[Iz x.kind,.bool x.bool,Iz x.num,.string x.text,.slice a1 l1 c1,.slice a2 l2 c2] 28)).heap.size=w.heap.size+1:=by simp
 have b1:Below w.heap.size w w1:=by rw [hw1];exact ((Br _ _).alloc (Lr _) _).alloc (by simp) _
 have hr1:w1.heap[w.heap.size+1]?=some (.cells Z6 28 (0,0)):=by rw [hw1,←hz];exact Hn _ _
 have hb1:w1.heap[w.heap.size]?=some (.cells #[Iz x.kind,.bool x.bool,Iz x.num,.string x.text,.slice a1 l1 c1,.slice a2 l2 c2] 28 (0,0)):=by rw [hw1];exact (Bh _ _ _ (by omega)).trans (Hn _ _)
 have hw1s:w1.heap.size=w.heap.size+2:=by rw [hw1];simp
 have hns1:=hns.same (w':=w1) fun b hb=>b1.block b (hS b hb)
 have hsz:=hns.sizes;have HCC:=Hh HC;have HL:=Hh hlow;have HS:=Hh hS;have HIS:=Hh his;have HNS:=Hh hns1;have HSZ:=Hh hsz;have hln:=hlow.1;have cb:=aA hb1;have HR:=Hh hr1;have HB:=Hh hb1;have HB1:=Hh b1;have HT:=Hh ht;clear HC hlow hS hns his hns1 hr1 hb1 hz hsz b1 ht hip hiq
 go_enter func31,ntmps31
 go_upto_region 1 with fail
 rw [←hw1];clear hw1
 go_upto_region 3 with (refine lE _ rfl (.const (Sn)) (.tmp 9) 25 rfl 9 iq hus HIQ.o hy0 hy1 hy2 rfl (.slice a1 l1 c1) x.names rfl HNS.o hln ?_;intro v1 w2 hown hgrow;obtain ⟨a3,c3,rfl,-⟩:=(show jH 9 w1.heap.size w2 v1 x.names from ⟨hown,HSZ.o⟩).strs;(have hk2:=(hgrow.block _ (Aa HB.o) (by simp)).trans HB.o);(have f2:=aD hk2);(have c2':=aA hk2);clear hk2)
 have hrow2:jH 9 w1.heap.size w2 (.slice a3 x.names.length c3) x.names:=⟨hown,HSZ.o⟩;have hk2:=(hgrow.block _ (Aa HB.o) (by simp)).trans HB.o
 have hr2:=(hgrow.block _ (Aa HR.o) (by simp)).trans HR.o
 have B2:Below w.heap.size w w2:=HB1.o.grown hgrow HB1.o.size (fun g e=>by cases e)
 have hz2':w1.heap.size≤w2.heap.size:=hgrow.size;have hg3:=aR w2 w.heap.size 4 (.slice a3 x.names.length c3);have hk3:=lI hk2 (.slice a3 x.names.length c3);have hr3:=(hg3.block _ (Aa hr2) (by intro e;have:=Ab e;omega)).trans hr2
 have hn2:bE (fun b=>Fr (w.heap.size+2) w2 b∧b<w2.heap.size) w2 (.slice a3 x.names.length c3) x.names:=(hrow2.fr).mono fun b hb=>⟨⟨by have:=hb.1;omega,hb.2.1,hb.2.2⟩,hb.2.1⟩
 have hn3:=frB hn2 hg3 (fun r e=>by have:=Ab e;exact .inl (by omega))
 have B3:Below w.heap.size w (w2.setCell ⟨w.heap.size,4,none⟩ (.slice a3 x.names.length c3)):=B2.grown hg3 B2.size (fun g e=>by have:=Ab e;omega)
 have hz3:=hg3.size;obtain ⟨w3,hw3⟩:∃W,W=w2.setCell ⟨w.heap.size,4,none⟩ (.slice a3 x.names.length c3):=⟨_,rfl⟩;rw [←hw3] at hg3 hk3 hr3 hn3 B3 hz3;rw [←hw3];have hg4:=aR w3 w.heap.size 5 (Sn);have hk4:=kD hk3 (Sn);have hr4:=(hg4.block _ (Aa hr3) (by intro e;have:=Ab e;omega)).trans hr3
 have hn4:=frB hn3 hg4 (fun r e=>by have:=Ab e;exact .inl (by omega))
 have B4:Below w.heap.size w (w3.setCell ⟨w.heap.size,5,none⟩ (Sn)):=B3.grown hg4 B3.size (fun g e=>by have:=Ab e;omega)
 have hz4:=hg4.size;obtain ⟨w4,hw4⟩:∃W,W=w3.setCell ⟨w.heap.size,5,none⟩ (Sn):=⟨_,rfl⟩;rw [←hw4] at hk4 hr4 hn4 B4 hz4;rw [←hw4];obtain ⟨B,hBB⟩:∃B,B=w2.heap.size:=⟨_,rfl⟩;rw [←hBB] at hn4 hz3;have hB2:w.heap.size+2≤B:=by omega
 have hB4:B≤w4.heap.size:=by omega
 obtain ⟨lx,hlx⟩:∃lx,lx=x.items:=⟨_,rfl⟩;have T0:Hid (RSt 28 d B w w4 x (.slice a3 x.names.length c3) 0):=Hh ⟨none,0,[],hr4,hk4,gS.nil _ _ _ _ _,rfl,B4,(fun y hy=>by cases hy),hn4⟩
 have hl2:l2=x.items.length:=by obtain ⟨_,_,e,-⟩:=HIS.o;cases e;rfl
 subst hl2;clear hown hgrow hrow2 hk2 hr2 B2 hz2' hg3 hk3 hr3 hn2 hn3 B3 hz3 hg4 hk4 hr4 hn4 B4 hz4 hw3 hw4 hBB f2 c2' cb hlx lx
 go_wp2
 go_loopw [15] (fun i wr=>∃j:Nat,i=Iz j∧j≤x.items.length∧B≤wr.heap.size∧RSt 28 d B w wr x (.slice a3 x.names.length c3) j) (fun i _=>x.items.length - (intOf i).toNat)
 case atStart=>exact ⟨0,rfl,Ax _,hB4,T0.o⟩
 case round=>
  clear T0 hB4;obtain ⟨j,rfl,hj,hBs,ai,ci,A,hres,hnod,hrow,hA,hB,hpl,hnm⟩:=hrel
  by_cases hlt:j<x.items.length
  ·have hlt':(j:Int)<(x.items.length:Int):=by omega
   have hj0:(0:Int)≤(j:Int):=by omega
   have hjm:(x.items.length:Int)≤1000000:=by have:=HL.o.2.1;omega
   have HLT:=Hh hlt;obtain ⟨-,-,-,b,off,y,b1,m1,n1,b2,m2,n2,rfl,hSb,hx,hnd,q0,q1,q2,q3,q4,q5⟩:=HIS.o.at hlt;have hbw:=HS.o b hSb;have r0:=(hB.cell (p:=⟨b,off+j * 6,none⟩) hbw).trans q0;have r1:=(hB.cell (p:=⟨b,off+j * 6+1,none⟩) hbw).trans q1;have r2:=(hB.cell (p:=⟨b,off+j * 6+2,none⟩) hbw).trans q2;have r3:=(hB.cell (p:=⟨b,off+j * 6+3,none⟩) hbw).trans q3;have r4:=(hB.cell (p:=⟨b,off+j * 6+4,none⟩) hbw).trans q4;have r5:=(hB.cell (p:=⟨b,off+j * 6+5,none⟩) hbw).trans q5;clear q0 q1 q2 q3 q4 q5;have hlA:A.length=j:=by
    have:=Ad List.length hA;rw [aE,Bi,Ba] at this;omega
   have hlA2:A.length<1000000:=by omega
   clear hlA;have hlow:=HL.o.2.2 y (Aq hx);have bA:=(Br wr.heap.size wr).alloc (o:=.cells #[Iz y.kind,.bool y.bool,Iz y.num,.string y.text,.slice b1 m1 n1,.slice b2 m2 n2] 28) (Lr _);have kA:=Hn wr (.cells #[Iz y.kind,.bool y.bool,Iz y.num,.string y.text,.slice b1 m1 n1,.slice b2 m2 n2] 28);have HNOD:=Hh hnod;have HRES:=Hh hres;have HROW:=Hh hrow;have HBR:=Hh hB;have HPL:=Hh hpl;have HNM:=Hh hnm;have HX:=Hh hx;have HA:=Hh hA;have HND:=Hh hnd;have HLOW:=Hh hlow;clear hnod hres hrow hB hpl hnm hx hA hnd hlow
   go_upto_region 6 with fail
   clear r0 r1 r2 r3 r4 r5;generalize wr.alloc (.cells #[Iz y.kind,.bool y.bool,Iz y.num,.string y.text,.slice b1 m1 n1,.slice b2 m2 n2] 28)=W1 at bA kA ⊢;have bd:Below W1.heap.size W1 W1.drew:=(Br _ _).drew;have k1:=(bA.block _ (Aa HNOD.o)).trans HNOD.o;have CK:=Hh (fun (wx:World) (hb:Below W1.heap.size W1 wx)=>Ai (aA ((hb.block _ (Aa k1)).trans k1)).2.2.2.2.2 (aA ((hb.block _ (Aa kA)).trans kA)))
   have bA1:=bA.size;have HBA:=Hh bA;clear bA kA k1;refine aJ (fun w'=>w'.cell? ⟨w.heap.size,5,none⟩=some (.slice ai A.length ci)∧(w'.cell? ⟨wr.heap.size,0,none⟩=some (Iz y.kind)∧w'.cell? ⟨wr.heap.size,1,none⟩=some (.bool y.bool)∧w'.cell? ⟨wr.heap.size,2,none⟩=some (Iz y.num)∧w'.cell? ⟨wr.heap.size,3,none⟩=some (.string y.text)∧w'.cell? ⟨wr.heap.size,4,none⟩=some (.slice b1 m1 n1)∧w'.cell? ⟨wr.heap.size,5,none⟩=some (.slice b2 m2 n2))) [1,2] (.take 0 (.take 1 (.take 2 (.ask 3 true (.ask 4 true (.ask 5 false (.take 6 (.ask 7 false .stop .stop)) .stop) .stop) .stop)))) (by kernel_rfl) (by kernel_rfl) (fun _ d _ _ _ h=>by cases d <;> exact h) (CK.o _ bd) ?_
   have BRD:=HBA.o.trans (bd.mono bA1);generalize W1.drew=wd at bd BRD ⊢;refine aG _ ?_ rfl rfl ?_ (fun K hK=>?_);rotate_left;(intro w0;go_simp;(try rfl));(go_simp;refine hK _ ?_;clear hK K)
   iterate 2 (refine aN _ ?_ rfl rfl (by decide) ?_ (fun K hK=>?_);rotate_left;(intro w0 hw0;go_simp;(try rfl));(go_simp;refine hK _ ?_;clear hK K))
   have CC:=Hh (HCC.o S _ y wd (HND.o.same fun b hb=>(BRD.block b (Ll (HS.o b hb) HBR.o.size)).trans (HBR.o.block b (HS.o b hb))) (fun b hb=>Ll (Ll (HS.o b hb) HBR.o.size) BRD.size) HLOW.o)
   refine aI _ rfl trivial ?_
   go_wp2_with (go_at_call 31;(with_reducible refine (CC.o).mono ?_);rintro e W2 ⟨cy,rfl,hn2,hb2⟩;obtain ⟨a5,l5,c5,a6,l6,c6,rfl⟩:=hn2.slices)
   have B2:=bd.trans (hb2.mono bd.size);refine Seg.mk ⟨CK.o _ B2,?_⟩;have b3:=(Br W2.heap.size W2).alloc (o:=.cells #[Iz y.kind,.bool y.bool,Iz y.num,.string y.text,.slice a5 l5 c5,.slice a6 l6 c6] 28) (Lr _);have cn3:=gC W2 #[Iz y.kind,.bool y.bool,Iz y.num,.string y.text,.slice a5 l5 c5,.slice a6 l6 c6] 28 [Iz y.kind,.bool y.bool,Iz y.num,.string y.text,.slice a5 l5 c5,.slice a6 l6 c6] rfl;have B3:=B2.trans (b3.mono B2.size);have ck3:=CK.o _ B3;have BR3:=HBA.o.trans (B3.mono bA1);have hrow3:=HROW.o.below BR3;have hpl3:=gS.plain HROW.o HPL.o (Below.grown BR3) (fun r e=>by cases e)
   have hB3:=HBR.o.trans (BR3.mono HBR.o.size);have hnm3:=frB HNM.o (Below.grown BR3) (fun r e=>by cases e)
   have hn3:=hn2.same (w':=W2.alloc (.cells #[Iz y.kind,.bool y.bool,Iz y.num,.string y.text,.slice a5 l5 c5,.slice a6 l6 c6] 28)) fun b hb=>b3.block b hb.2.1
   have hbs:B≤(W2.alloc (.cells #[Iz y.kind,.bool y.bool,Iz y.num,.string y.text,.slice a5 l5 c5,.slice a6 l6 c6] 28)).heap.size:=Ae hBs BR3.size;have hone:=hn2.one;refine aI _ rfl trivial ?_
   go_wp2_with fail
   generalize hW3:W2.alloc (.cells #[Iz y.kind,.bool y.bool,Iz y.num,.string y.text,.slice a5 l5 c5,.slice a6 l6 c6] 28)=W3 at b3 cn3 B3 ck3 BR3 hrow3 hpl3 hB3 hnm3 hn3 hbs ⊢;clear hW3;refine Seg.mk ⟨ck3,?_⟩;refine aF _ rfl trivial ?_;have HR3:=Hh hrow3;have HC3:=Hh cn3
   go_wp2_with (refine Bk _ rfl (.tmp 20) (.tmp 23) 26 rfl B 28 ip (.agg Z6) 6 88 hug HIP.o hz0 hz1 hz2 rfl (by decide) (.slice ai A.length ci) A.length _ rfl HR3.o.1 ⟨W2.heap.size,0,none⟩ 1 1 [Iz y.kind,.bool y.bool,Iz y.num,.string y.text,.slice a5 l5 c5,.slice a6 l6 c6] rfl rfl HC3.o hone (by decide) (by unfold maxLen;omega) (by omega) hbs _ rfl ?_;intro gg cc W8 hown hgrow hat hlt2)
   have hlo:∀g,(Value.slice ai A.length ci).ownBlock=some g→B≤g:=fun g e=>(HR3.o.1.lt _ e).1
   have hk8:=(hgrow.block _ (Ll (Aa HNOD.o) BR3.size) (fun e=>by have:=hlo _ e.symm;omega)).trans ((BR3.block _ (Aa HNOD.o)).trans HNOD.o)
   have hres8:=(hgrow.block _ (Ll (Aa HRES.o) BR3.size) (fun e=>by have:=hlo _ e.symm;omega)).trans ((BR3.block _ (Aa HRES.o)).trans HRES.o)
   have hf8:=aD hk8;have hd8:=aA hk8;have hrow8:=HR3.o.push (x:=y) hown hgrow (fK hat) (fun b e=>by cases e) (hn3.mono fun b hb=>⟨by have:=hb.1;have:=BRD.size;omega,Ll hb.2.1 b3.size,FD HROW.o.1 (Ae BRD.size hb.1),by simp⟩)
   have hpl8:∀z,z ∈ A++[([Iz y.kind,.bool y.bool,Iz y.num,.string y.text,.slice a5 l5 c5,.slice a6 l6 c6],y)]→aC d (nK W8) W8 z.1 z.2:=by
    intro z hz;rcases Bb.1 hz with hz | hz
    ·exact gS.plain HR3.o hpl3 hgrow (fun r e=>.inr e) z hz
    ·cases At.1 hz
     have e8:∀b,Fr wd.heap.size W2 b→W8.heap[b]?=W2.heap[b]?:=fun b hb=>(hgrow.block b (Ll hb.2.1 b3.size) (fun e=>FD HROW.o.1 (Ae BRD.size hb.1) e.symm)).trans (b3.block b hb.2.1)
     exact (hn2.same e8).mono fun b hb=>(hb.move (base':=0) (e8 b hb) (Ax _) (Ae b3.size hgrow.size)).2.2
   have hB8:Below w.heap.size w W8:=hB3.grown hgrow hB3.size (fun g e=>by have:=hlo _ e;omega)
   have hnm8:=frB hnm3 hgrow (fun r e=>.inr (hlo r e))
   have hgs:=aR W8 w.heap.size 5 (.slice (some ⟨gg,0,none⟩) (A.length+1) cc);have hk9:=kD hk8 (.slice (some ⟨gg,0,none⟩) (A.length+1) cc);have hres9:=(hgs.block _ (Aa hres8) (by intro e;have:=Ab e;omega)).trans hres8
   have hrow9:=hrow8.kept hgs (fun r e=>.inl (by have:=Ab e;omega)) (.inl rfl)
   have hpl9:=gS.plain hrow8 hpl8 hgs (fun r e=>.inl (by have:=Ab e;omega))
   have hB9:Below w.heap.size w (W8.setCell ⟨w.heap.size,5,none⟩ (.slice (some ⟨gg,0,none⟩) (A.length+1) cc)):=hB8.grown hgs hB8.size (fun g e=>by have:=Ab e;omega)
   have hnm9:=frB hnm8 hgs (fun r e=>.inl (by have:=Ab e;omega))
   have hbs9:B≤(W8.setCell ⟨w.heap.size,5,none⟩ (.slice (some ⟨gg,0,none⟩) (A.length+1) cc)).heap.size:=Ae hbs (Ae hgrow.size hgs.size);have hlen:(A++[(([Iz y.kind,.bool y.bool,Iz y.num,.string y.text,.slice a5 l5 c5,.slice a6 l6 c6]:Vl),y)]).length=A.length+1:=by simp
   have F9:=Hh (show RSt 28 d B w (W8.setCell ⟨w.heap.size,5,none⟩ (.slice (some ⟨gg,0,none⟩) (A.length+1) cc)) x (.slice a3 x.names.length c3) (j+1) from ⟨some ⟨gg,0,none⟩,cc,_,hres9,by rw [hlen];exact hk9,by rw [hlen];exact hrow9,by rw [mS HX.o,←HA.o];simp [aE],hB9,hpl9,hnm9⟩)
   clear hk9 hres9 hrow9 hpl9 hB9 hnm9 hlen hrow8 hpl8 hB8 hnm8 hgs hres8 hk8 hown hgrow hat hpl3 hB3 hrow3 hnm3 hn3 hn2 hb2 b3;refine Seg.mk ?_;refine aG _ ?_ rfl rfl ?_ (fun K hK=>?_);rotate_left;(intro w0;go_simp;(try rfl));(go_simp;refine hK _ ?_;clear hK K)
   refine cG _ rfl trivial ?_
   go_wp2
   go_roundw
   case rel=>exact ⟨j+1,by go_num,by have:=HLT.o;omega,hbs9,F9.o⟩
   case measure=>have:=HLT.o;simp [intOf];omega
  ·have hlt':¬ (j:Int)<(x.items.length:Int):=by omega
   have hjl:j=x.items.length:=by omega
   rw [hjl,List.take_length] at hA;have q1:=aA hnod;have q2:=aA hres;have q3:=aD hres;have HA:=Hh hA;have HRES:=Hh hres;have HN:=Hh (Ai hrow hpl);have HBR:=Hh hB;have HNM:=Hh hnm;clear hA hres hnod hrow hpl hB hjl hnm
   go_wp2
   have hput:=dB HRES.o (Iz x.kind) (.bool x.bool) (Iz x.num) (.string x.text) (.slice a3 x.names.length c3) (.slice ai A.length ci);have hgf:=aM wr (w.heap.size+1) (Iz x.kind) (.bool x.bool) (Iz x.num) (.string x.text) (.slice a3 x.names.length c3) (.slice ai A.length ci);refine Ar (v:=.agg #[Iz x.kind,.bool x.bool,Iz x.num,.string x.text,.slice a3 x.names.length c3,.slice ai A.length ci]) ?_ ?_ ?_;rotate_left
   ·rfl
   ·have hr0:∀r,some (w.heap.size+1)=some r→r<B∨(none:Option Nat)=some r:=fun r e=>.inl (by have:=Ab e;omega)
    exact ⟨B,_,_,_,A,rfl,hB2,HT.o,frB HNM.o hgf (fun r e=>.inl (by have:=Ab e;omega)),HN.o.1.kept hgf hr0 (.inl rfl),gS.plain HN.o.1 HN.o.2 hgf (fun r e=>.inl (by have:=Ab e;omega)),HA.o,HBR.o.grown hgf HBR.o.size (fun g e=>by have:=Ab e;omega)⟩
   ·obtain ⟨q0,q1,q2,q3,q4,q5⟩:=aA hput
    simp only [dE] at q0 q1 q2 q3 q4 q5;simp [results,results31,go_sem,q0,q1,q2,q3,q4,q5]
theorem pF:∀ (d:Nat) (S:Nat→Prop) (cs:Vl) (x:ND) (w:World),aC d S w cs x→(∀b,S b→b<w.heap.size)→jG d x→Calls prog 31 #[.agg cs.toArray] w (nL d w x)
 | 0,S,cs,x,w,h,_,_=>h.elim
 | d+1,S,cs,x,w,h,hS,hl=>(yM (fun S cs x w h hS hl=>pF d S cs x w h hS hl) S cs x w h hS hl).mono fun e w' h=>h.new
theorem OL (d:Nat) (S:Nat→Prop) (cs:Vl) (x:ND) (w:World) (h:aC (d+1) S w cs x) (hS:∀b,S b→b<w.heap.size) (hl:jG (d+1) x):Calls prog 31 #[.agg cs.toArray] w (tF 28 d w x):=yM (fun S cs x w h hS hl=>pF d S cs x w h hS hl) S cs x w h hS hl
def aEl (d:Nat) (w:World) (y:ND) (e:Ending) (w':World):Prop:=∃cs:Vl,e=.returned (.tuple #[.agg cs.toArray,.bool true])∧aC d (fun b=>w.heap.size≤b∧b<w'.heap.size) w' cs y∧Below w.heap.size w w'
theorem aAb {d i:Nat} {S:Nat→Prop} (cs:Vl) (x y:ND) (s:Bt) (w:World) (h:aC (d+1) S w cs x) (hS:∀b,S b→b<w.heap.size) (hlow:jG (d+1) x) (h5:x.kind=5) (hlen:x.names.length=x.items.length) (hn:x.names.Nodup) (h0:x.names[i]?=some s) (hy:x.items[i]?=some y) :
 Calls prog 12 #[.agg cs.toArray,.string s] w (aEl d w y):=by
 obtain ⟨a1,l1,c1,a2,l2,c2,rfl⟩:=h.slices;obtain ⟨_,_,e,ht,hns,his⟩:=h;simp only [Bq,Di,Dp] at e;obtain ⟨rfl,rfl⟩:=e;rw [h5];obtain ⟨w1,hw1⟩:∃W,W=(w.alloc (.cells #[Iz 5,.bool x.bool,Iz x.num,.string x.text,.slice a1 l1 c1,.slice a2 l2 c2] 28)).alloc (.cells Z6 28):=⟨_,rfl⟩;have z1:(w.alloc (.cells #[Iz 5,.bool x.bool,Iz x.num,.string x.text,.slice a1 l1 c1,.slice a2 l2 c2] 28)).heap.size=w.heap.size+1:=by simp
 have b1:Below w.heap.size w w1:=by rw [hw1];exact ((Br _ _).alloc (Lr _) _).alloc (by simp) _
 have k0:w1.heap[w.heap.size]?=some (.cells #[Iz 5,.bool x.bool,Iz x.num,.string x.text,.slice a1 l1 c1,.slice a2 l2 c2] 28 (0,0)):=by rw [hw1];exact (Bh _ _ _ (by omega)).trans (Hn _ _)
 have k1:w1.heap[w.heap.size+1]?=some (.cells Z6 28 (0,0)):=by rw [hw1,←z1];exact Hn _ _
 have hl1:l1=x.names.length:=by obtain ⟨_,_,e,-⟩:=hns;simp only [Value.slice.injEq] at e;exact e.2.1
 have hl2:l2=x.items.length:=by obtain ⟨_,_,e,-⟩:=his;simp only [Value.slice.injEq] at e;exact e.2.1
 subst hl1 hl2;have HS:=Hh hS;have HL:=Hh hlow;have HNS:=Hh hns;have HIS:=Hh his;have HB1:=Hh b1;have HLEN:=Hh hlen;have HN:=Hh hn;have H0:=Hh h0;have HY:=Hh hy;have K0:=Hh k0;have K1:=Hh k1;have hln:=hlow.1;have cb:=aA k0;clear hS hlow hns his b1 hlen hn h0 hy k0 k1 z1 ht h5
 go_enter func12,ntmps12
 go_upto_region 1 with fail
 rw [←hw1];clear hw1
 go_upto_region 2 with fail
 go_loopw [11] (fun i' wr=>∃j:Nat,i'=Iz j∧j≤i∧wr=w1) (fun i' _=>i+1 - (intOf i').toNat)
 case atStart=>exact ⟨0,rfl,Ax _,rfl⟩
 case round=>
  obtain ⟨j,rfl,hj,rfl⟩:=hrel;have hi:=dH H0.o;have hlt':(j:Int)<(x.names.length:Int):=by omega
  have hj0:(0:Int)≤(j:Int):=by omega
  have hji:j<x.items.length:=by have:=HLEN.o;omega
  have hlt2:(j:Int)<(x.items.length:Int):=by omega
  have hjm:(x.names.length:Int)≤1000000:=by omega
  obtain ⟨r,hsn⟩:∃r,x.names[j]?=some r:=⟨_,Ac (by omega)⟩
  obtain ⟨bq,oq,rfl,hSq,hcq⟩:=HNS.o.get hsn;have rq:=(HB1.o.cell (p:=⟨bq,oq+j,none⟩) (HS.o _ hSq)).trans hcq;have HSN:=Hh hsn;clear hsn hcq hSq
  by_cases hji2:j=i
  ·have hrs:r=s:=by have h1:=HSN.o;rw [hji2,H0.o] at h1;exact (Ab h1).symm
   have e1:(r.toList == s.toList)=true:=lV hrs;obtain ⟨-,-,-,b,off,y',b1,m1,n1,b2,m2,n2,rfl,hSb,hx,hnd,q0,q1,q2,q3,q4,q5⟩:=HIS.o.at hji;obtain rfl:y'=y:=by have h1:=HY.o;rw [←hji2,hx] at h1;exact Ab h1
   have hbw:=HS.o b hSb;have r0:=(HB1.o.cell (p:=⟨b,off+j * 6,none⟩) hbw).trans q0;have r1:=(HB1.o.cell (p:=⟨b,off+j * 6+1,none⟩) hbw).trans q1;have r2:=(HB1.o.cell (p:=⟨b,off+j * 6+2,none⟩) hbw).trans q2;have r3:=(HB1.o.cell (p:=⟨b,off+j * 6+3,none⟩) hbw).trans q3;have r4:=(HB1.o.cell (p:=⟨b,off+j * 6+4,none⟩) hbw).trans q4;have r5:=(HB1.o.cell (p:=⟨b,off+j * 6+5,none⟩) hbw).trans q5;have CC:=Hh (pF d S _ y' wr (hnd.same fun b q=>HB1.o.block b (HS.o b q)) (fun b q=>Ll (HS.o b q) HB1.o.size) (HL.o.2.2 y' (Aq hx)))
   clear hrs hji2 hx hnd q0 q1 q2 q3 q4 q5 hbw hSb
   go_upto_region 5 with fail
   go_wp2_with (go_at_call 31;(with_reducible refine (CC.o).mono ?_);rintro e w7 ⟨cy,rfl,hn7,hb7⟩;obtain ⟨b3,m3,n3,b4,m4,n4,rfl⟩:=hn7.slices;(have k7:=(hb7.block _ (Aa K1.o)).trans K1.o);(have f7:=aD k7);(have c7:=aA k7);(have HK7:=Hh k7);clear k7)
   refine aP (v:=.bool true) HK7.o results12 rfl rfl rfl ?_;have hg:=aM w7 (w.heap.size+1) (Iz y'.kind) (.bool y'.bool) (Iz y'.num) (.string y'.text) (.slice b3 m3 n3) (.slice b4 m4 n4);have hz:w.heap.size+2≤wr.heap.size:=by have:=Aa K1.o;omega
   exact ⟨_,rfl,(hn7.same fun b q=>hg.block b q.2.1 (by intro e;have:=Ab e;have:=q.1;omega)).mono fun b q=>⟨by have:=q.1;omega,Ll q.2.1 hg.size⟩,(HB1.o.trans (hb7.mono HB1.o.size)).grown hg (HB1.o.trans (hb7.mono HB1.o.size)).size fun k hk=>by have:=Ab (show some (w.heap.size+1)=some k from hk);omega⟩
  ·have hrs:r ≠ s:=fun e=>by
    have h1:=HSN.o;rw [e] at h1;exact hji2 ((List.getElem?_inj (by omega) HN.o).1 (h1.trans H0.o.symm))
   have e1:(r.toList == s.toList)=false:=iD hrs;clear hrs
   go_wp2
   go_roundw
   case rel=>exact ⟨j+1,by go_num,by omega,trivial⟩
   case measure=>simp [intOf];omega
end Go.Proofs.YtncdpanfefnjlaaGreatDoor