import Derived.Test.YtncdpanfefnjlaaGreatDoorLok
set_option linter.unusedVariables false
set_option linter.unusedSimpArgs false
set_option maxRecDepth 100000
set_option maxHeartbeats 3200000
namespace Go.Proofs.YtncdpanfefnjlaaGreatDoor
open Go.Proofs.Tryz
open Go Go.ChangeShapes Go.WideShapes Go.ChangeAt Go.RowKit
theorem aFn {d:Nat} {S:Nat→Prop} (cs:Vl) (x:ND) (s:Bt) (w:World) (h:aC (d+1) S w cs x) (hk:x.kind ≠ 5) :
 Calls prog 30 #[.agg cs.toArray,.string s] w (RP d w (eL x s)):=by
 obtain ⟨a1,l1,c1,a2,l2,c2,rfl⟩:=h.slices;have hg:eL x s=none:=by unfold eL;rw [Af hk]
 rw [hg];have n5:(x.kind != 5)=true:=by simp [hk]
 have n5':(x.kind == 5)=false:=by simp [hk]
 clear h hg;obtain ⟨w1,hw1⟩:∃W,W=(w.alloc (.cells (Na x a1 l1 c1 a2 l2 c2) 28)).alloc (.cells Z6 28):=⟨_,rfl⟩;have z1:(w.alloc (.cells (Na x a1 l1 c1 a2 l2 c2) 28)).heap.size=w.heap.size+1:=by simp
 have b1:Below w.heap.size w w1:=by rw [hw1];exact ((Br _ _).alloc (Lr _) _).alloc (by simp) _
 have k0:w1.heap[w.heap.size]?=some (.cells (Na x a1 l1 c1 a2 l2 c2) 28 (0,0)):=by rw [hw1];exact (Bh _ _ _ (by omega)).trans (Hn _ _)
 have k1:w1.heap[w.heap.size+1]?=some (.cells Z6 28 (0,0)):=by
  have:=Hn (w.alloc (.cells (Na x a1 l1 c1 a2 l2 c2) 28)) (.cells Z6 28);rw [z1] at this;rw [hw1];exact this
 have c0:=aA k0;have f1:=aD k1;have t1:=aA k1;have K1:=Hh k1;have B1:=Hh b1;clear k0 k1 b1 z1 hk
 go_enter func30,ntmps30
 go_upto_region 1 with fail
 rw [←hw1];clear hw1
 go_wp2
 have hgf:=aM w1 (w.heap.size+1) (Iz 0) (.bool false) (Iz 0) (.string ⟨#[]⟩) (Sn) (Sn);have hbb:=B1.o;have hput:=dB K1.o (Iz 0) (.bool false) (Iz 0) (.string ⟨#[]⟩) (Sn) (Sn);refine Ar (v:=.tuple #[.agg Z6,.bool false]) ?_ ?_ ?_;rotate_left
 ·rfl
 ·exact ⟨Y6,rfl,(cC _ _ 0 false 0 ⟨#[]⟩ (by decide)).deeper (by omega),hbb.grown hgf hbb.size (fun b e=>by have:=Ab e;omega)⟩
 ·obtain ⟨q0,q1,q2,q3,q4,q5⟩:=aA hput
  simp only [dE] at q0 q1 q2 q3 q4 q5;simp [results,results30,go_sem,q0,q1,q2,q3,q4,q5]
theorem WQ {d:Nat} {S:Nat→Prop} (cs:Vl) (x:ND) (l:Bt) (g:Nat) (w:World) (cg:w.heap[g]?=some (.cells cs.toArray 28 (0,0))) (h:aC (d+1) S w cs x) (hS:∀b,S b→b<w.heap.size) (hx:cH 7 x):Calls prog 55 #[.string l,.pointer (some ⟨g,0,none⟩)] w fun e w'=>e=.returned (.bool (!fW x l))∧Below w.heap.size w w':=by
 obtain ⟨a1,l1,c1,a2,l2,c2,rfl⟩:=h.slices;have GE:=Hh (zB _ x l w h hS hx.kind hx.len (dO 8 (d+1) x ((bY hx.kind).2 hx)));have hlab:fW x l=match eL x l with | some z=>decide (z.kind=3) | none=>false:=rfl
 have cb:=aA cg;rw [hlab];clear h hS hx cg hlab;cases ho:eL x l with
 | none=>
  rw [ho] at GE;clear ho
  go_enter func55,ntmps55
  go_upto_region 2 with ((with_reducible refine (GE.o).mono ?_);rintro e w2 ⟨cy,rfl,hy,hb2⟩;obtain ⟨a3,l3,c3,a4,l4,c4,rfl⟩:=hy.slices)
  have b3:=(Br w2.heap.size w2).alloc (o:=.cells #[Iz ((none:Option ND).getD nd0).kind,.bool ((none:Option ND).getD nd0).bool,Iz ((none:Option ND).getD nd0).num,.string ((none:Option ND).getD nd0).text,.slice a3 l3 c3,.slice a4 l4 c4] 28) (Lr _);have HB:=Hh (hb2.trans (b3.mono hb2.size));clear hy hb2 b3 GE cb
  go_wp2
  go_ret
  exact ⟨rfl,HB.o⟩
 | some y=>
  rw [ho] at GE;clear ho
  by_cases hk:y.kind=3
  ·rw [show (match some y with | some z=>decide (z.kind=3) | none=>false)=true from An hk]
   have HKK:=Hh hk;clear hk
   go_enter func55,ntmps55
   go_upto_region 2 with ((with_reducible refine (GE.o).mono ?_);rintro e w2 ⟨cy,rfl,hy,hb2⟩;obtain ⟨a3,l3,c3,a4,l4,c4,rfl⟩:=hy.slices)
   have b3:=(Br w2.heap.size w2).alloc (o:=.cells (Na y a3 l3 c3 a4 l4 c4) 28) (Lr _);have k3:=Hn w2 (.cells (Na y a3 l3 c3 a4 l4 c4) 28);have HB:=Hh (hb2.trans (b3.mono hb2.size))
   change Hid (Below w.heap.size w (w2.alloc (.cells (Na y a3 l3 c3 a4 l4 c4) 28))) at HB
   generalize w2.alloc _=w3 at k3 HB ⊢;have c3:=aA k3;clear hy hb2 b3 k3 GE cb;rw [HKK.o] at c3
   go_wp2
   go_ret
   exact ⟨rfl,HB.o⟩
  ·rw [show (match some y with | some z=>decide (z.kind=3) | none=>false)=false from Ap hk]
   have n3:(y.kind != 3)=true:=by simp [hk]
   go_enter func55,ntmps55
   go_upto_region 2 with ((with_reducible refine (GE.o).mono ?_);rintro e w2 ⟨cy,rfl,hy,hb2⟩;obtain ⟨a3,l3,c3,a4,l4,c4,rfl⟩:=hy.slices)
   have b3:=(Br w2.heap.size w2).alloc (o:=.cells (Na y a3 l3 c3 a4 l4 c4) 28) (Lr _);have k3:=Hn w2 (.cells (Na y a3 l3 c3 a4 l4 c4) 28);have HB:=Hh (hb2.trans (b3.mono hb2.size))
   change Hid (Below w.heap.size w (w2.alloc (.cells (Na y a3 l3 c3 a4 l4 c4) 28))) at HB
   generalize w2.alloc _=w3 at k3 HB ⊢;have c3:=aA k3;clear hy hb2 b3 k3 GE cb;clear hk
   go_wp2
   go_ret
   exact ⟨rfl,HB.o⟩
theorem aAz {d:Nat} {S:Nat→Prop} (cs:Vl) (x:ND) (v:Value) (ls:List Bt) (g:Nat) (w:World) (cg:w.heap[g]?=some (.cells cs.toArray 28 (0,0))) (h:aC (d+1) S w cs x) (hl:bE S w v ls) (hS:∀b,S b→b<w.heap.size) (hx:cH 7 x) :
 Calls prog 90 #[v,.func (.func 55) #[] #[.pointer (some ⟨g,0,none⟩)]] w (TT (!ls.all (fW x)) w):=by
 obtain ⟨ao,cap,rfl,hc1,hc2,-⟩:=id hl;have H:=Hh hl;have HS:=Hh hS;have LK:=Hh (fun (wx:World) (hb:Below w.heap.size w wx) (l:Bt)=>WQ cs x l g wx ((hb.block _ (Aa cg)).trans cg) (h.same fun b q=>hb.block b (hS b q)) (fun b q=>Ll (hS b q) hb.size) hx)
 unfold maxLen at hc2;clear hl h hS hx cg
 go_enter func90,ntmps90
 go_wp2
 go_loopw [5,8] (fun i5 i wr=>∃j:Nat,i=Iz j∧j≤ls.length∧(∀y,y ∈ ls.take j→fW x y=true)∧Below w.heap.size w wr) (fun _ i _=>ls.length - (intOf i).toNat)
 case atStart=>exact ⟨0,rfl,Ax _,(fun y hy=>by simp at hy),Br _ _⟩
 case round=>
  obtain ⟨j,rfl,hj,hok,hB⟩:=hrel
  by_cases hlt:j<ls.length
  ·have hlt':(j:Int)<(ls.length:Int):=by omega
   have hj0:(0:Int)≤(j:Int):=by omega
   obtain ⟨s,hs⟩:∃s,ls[j]?=some s:=⟨_,Ac hlt⟩;obtain ⟨b,off,rfl,hb,k1⟩:=H.o.get hs;have q1:=(hB.cell (p:=⟨b,off+j,none⟩) (HS.o b hb)).trans k1;have W:=Hh (LK.o wr hB s);have HX:=Hh hs;have HOK:=Hh hok;clear hs hok k1;cases hv:fW x s with
   | true=>
    rw [hv] at W;have HV1:=Hh hv;clear hv
    go_wp2_with (go_at_call 55;(with_reducible refine (W.o).mono ?_);rintro e w1 ⟨rfl,hb1⟩;(have hB1:=hB.trans (hb1.mono hB.size));clear hb1 hB)
    go_roundw
    case rel=>
     refine ⟨j+1,by go_num,by omega,fun y hy=>?_,hB1⟩
     rw [Bf,HX.o] at hy;rcases Bb.1 hy with hy | hy
     ·exact HOK.o y hy
     ·simp at hy;subst hy;exact HV1.o
    case measure=>simp [intOf];omega
   | false=>
    rw [hv] at W;have HV1:=Hh hv;clear hv
    go_wp2_with (go_at_call 55;(with_reducible refine (W.o).mono ?_);rintro e w1 ⟨rfl,hb1⟩;(have hB1:=hB.trans (hb1.mono hB.size));clear hb1 hB)
    go_ret
    have hall:ls.all (fW x)=false:=by
     cases hq:ls.all (fW x) with
     | false=>rfl
     | true=>
      have:=Aw.1 hq s (Aq HX.o);rw [HV1.o] at this;cases this
    exact ⟨(j:Int),rfl,by rw [hall,An (by omega)];rfl,hB1⟩
  ·have hlt':¬ (j:Int)<(ls.length:Int):=by omega
   have hall:ls.all (fW x)=true:=by
    rw [Ao (by omega)] at hok
    exact Aw.2 hok
   have HA:=Hh hall;clear hok hall
   go_wp2
   go_ret
   exact ⟨-1,rfl,by rw [HA.o];rfl,hB⟩
theorem WO {d:Nat} {S:Nat→Prop} (cs:Vl) (x:ND) (v:Value) (ls:List Bt) (g:Nat) (w:World) (cg:w.heap[g]?=some (.cells cs.toArray 28 (0,0))) (h:aC (d+1) S w cs x) (hl:bE S w v ls) (hS:∀b,S b→b<w.heap.size) (hx:cH 7 x) :
 Calls prog 56 #[v,.func (.func 55) #[] #[.pointer (some ⟨g,0,none⟩)]] w fun e w'=>e=.returned (.bool (!ls.all (fW x)))∧Below w.heap.size w w':=by
 have I:=Hh (aAz cs x v ls g w cg h hl hS hx);generalize (!ls.all (fW x))=bad at I ⊢;clear h hl hS hx cg
 go_enter func56,ntmps56
 go_wp2_with (go_at_call 90;(with_reducible refine (I.o).mono ?_);rintro e w2 ⟨z,rfl,hz,hb2⟩)
 go_ret
 exact ⟨by first | rfl | (rw [←hz]),hb2⟩
theorem FY {d:Nat} {S:Nat→Prop} (cs:Vl) (x:ND) (v:Value) (ls:List Bt) (w:World) (h:aC (d+1) S w cs x) (hl:bE S w v ls) (hS:∀b,S b→b<w.heap.size) (hx:cH 7 x) :
 Calls prog 29 #[.agg cs.toArray,v] w fun e w'=>e=.returned (.bool (decide (ls ≠ []) && ls.all (fW x)))∧Below w.heap.size w w':=by
 obtain ⟨a1,l1,c1,a2,l2,c2,rfl⟩:=h.slices;obtain ⟨ao,cap,rfl,hc1,hc2,-⟩:=id hl;have b0:=(Br w.heap.size w).alloc (o:=.cells (Na x a1 l1 c1 a2 l2 c2) 28) (Lr _);have k0:=Hn w (.cells (Na x a1 l1 c1 a2 l2 c2) 28);have hmf:∀ (fn:Fn) (first cap:Array Value) (w:World),(Instr.makeFunc fn first cap).run prog w=.ok (.func fn first cap) w:=fun _ _ _ _=>rfl
 have CF:=Hh (WO _ x (.slice ao ls.length cap) ls w.heap.size _ k0 (h.same fun b q=>b0.block b (hS b q)) (hl.same fun b q=>b0.block b (hS b q)) (fun b q=>Ll (hS b q) b0.size) hx)
 have HB0:=Hh b0
 by_cases h0:ls=[]
 ·have hl0:¬ (0:Int)<(ls.length:Int):=by rw [h0];decide
  rw [show (decide (ls ≠ []) && ls.all (fW x))=false by rw [h0];rfl]
  clear h hl hS hx k0 b0 CF h0
  go_enter func29,ntmps29
  go_wp2
  go_ret
  exact ⟨rfl,HB0.o⟩
 ·have hl0:(0:Int)<(ls.length:Int):=by have:ls.length ≠ 0:=fun e=>h0 (Au.1 e);omega
  rw [An (show ls ≠ [] from h0),Bool.true_and]
  generalize ls.all (fW x)=good at CF ⊢;clear h hl hS hx k0 b0 h0
  go_enter func29,ntmps29
  go_wp2_with (go_at_call 56;(with_reducible refine (CF.o).mono ?_);rintro e w2 ⟨rfl,hb2⟩)
  go_ret
  exact ⟨by simp,HB0.o.trans (hb2.mono HB0.o.size)⟩
theorem wS.bad {k:Int} {s:Bt} {n:ND} {e0:Int} (h:wS k s n e0) (h0:e0 ≠ 0):n=nd0:=by
 rcases h with ⟨-,⟨g,-⟩ | ⟨-,g,-⟩⟩ | ⟨-,⟨g,-⟩ | ⟨-,g,-⟩⟩ | ⟨-,⟨g,-⟩ | ⟨-,g,-⟩⟩ | ⟨-,g,-⟩
 all_goals first
  | exact g
  | exact absurd g h0
def aEe (v:VD) (s:Bt) (w:World) (e:Ending) (w':World):Prop:=∃ (cs:Vl) (n:ND) (e0:Int),e=.returned (.tuple #[.agg cs.toArray,.bool (decide (e0=0) && mL n (vtS v))])∧aC 9 (fun b=>w.heap.size≤b∧b<w'.heap.size) w' cs n∧Below w.heap.size w w'∧wS v.f s n e0
theorem KQ (v:VD) (hv:aU v=true) (s:Bt) (w:World) (hT:uX w) (hD:DB w):Calls prog 28 #[.agg (vcs v),.string s] w (aEe v s w):=by
 have hw:=vI hv;obtain ⟨w1,hw1⟩:∃W,W=(w.alloc (.cells #[.string v.p,Iz v.a,Iz v.b,Iz v.f,Iz v.z] 58)).alloc (.cells Z6 28):=⟨_,rfl⟩;have z1:(w.alloc (.cells #[.string v.p,Iz v.a,Iz v.b,Iz v.f,Iz v.z] 58)).heap.size=w.heap.size+1:=by simp
 have b1:Below w.heap.size w w1:=by rw [hw1];exact ((Br _ _).alloc (Lr _) _).alloc (by simp) _
 have k0:w1.heap[w.heap.size]?=some (.cells #[.string v.p,Iz v.a,Iz v.b,Iz v.f,Iz v.z] 58 (0,0)):=by rw [hw1];exact (Bh _ _ _ (by omega)).trans (Hn _ _)
 have k1:w1.heap[w.heap.size+1]?=some (.cells Z6 28 (0,0)):=by
  have:=Hn (w.alloc (.cells #[.string v.p,Iz v.a,Iz v.b,Iz v.f,Iz v.z] 58)) (.cells Z6 28);rw [z1] at this;rw [hw1];exact this
 have z3:w1.heap.size=w.heap.size+2:=by rw [hw1];simp
 have DE:=YB v.f s w1 (hT.below b1);unfold YT at DE;have DE:=Hh DE;have TX:Hid (∀wx,Below w.heap.size w wx→Calls prog 53 #[.agg #[.string v.p,Iz v.a,Iz v.b,Iz v.f,Iz v.z]] wx fun e w'=>e=.returned (.tuple #[.string (vtS v),Iz 0])∧Below wx.heap.size wx w'):=Hh fun wx hb=>by
  have:=nW v wx hw (hD.below hb);unfold xE at this
  rwa [show vtE v=0 by unfold vtE;rw [hv];rfl] at this
 have NT:=Hh (fun wx:World=>gA (vtS v) wx)
 have HSZ:Hid ((vtS v).size=17):=Hh (vG hv).2.1;have K0:=Hh k0;have K1:=Hh k1;have B1:=Hh b1;have Z3:=Hh z3;have c0:=dM k0;clear hw hv hT hD k0 k1 b1 z1 z3;unfold vcs
 go_enter func28,ntmps28
 go_upto_region 1 with fail
 rw [←hw1];clear hw1
 go_upto_region 2 with ((with_reducible refine (DE.o).mono ?_);rintro e w2 ⟨cn,n,e0,rfl,hn,hb2,hd⟩;obtain ⟨a1,l1,c1,a2,l2,c2,rfl⟩:=hn.slices)
 have b3:=(Br w2.heap.size w2).alloc (o:=.cells (Na n a1 l1 c1 a2 l2 c2) 28) (Lr _);have k3:=Hn w2 (.cells (Na n a1 l1 c1 a2 l2 c2) 28);have hB3:=hb2.trans (b3.mono hb2.size);have hn3:=(hn.same fun b q=>b3.block b q.2).mono fun b q=>(⟨q.1,Ll q.2 b3.size⟩:w1.heap.size≤b∧b<(w2.alloc (.cells (Na n a1 l1 c1 a2 l2 c2) 28)).heap.size)
 have hz2:=hb2.size;generalize w2.alloc _=w3 at b3 k3 hB3 hn3 ⊢;generalize w2.heap.size=g3 at k3 hz2 ⊢;have HB3:=Hh hB3;have HN3:=Hh hn3;have HK3:=Hh k3;have HD:=Hh hd;have HZ2:=Hh hz2;have hK0:Hid (∀wx,Below w1.heap.size w1 wx→wx.heap[w.heap.size]?=some (.cells #[.string v.p,Iz v.a,Iz v.b,Iz v.f,Iz v.z] 58 (0,0))∧wx.heap[w.heap.size+1]?=some (.cells Z6 28 (0,0))):=Hh fun wx hb=>⟨(hb.block _ (Aa K0.o)).trans K0.o,(hb.block _ (Aa K1.o)).trans K1.o⟩
 clear hn hb2 b3 k3 hB3 hn3 hd c0 DE hz2
 by_cases h0:e0=0
 ·subst h0
  have F:=HD.o.good.1;have HF:=Hh F;have cv:=dM (hK0.o _ HB3.o).1;have T3:=Hh (TX.o w3 (B1.o.trans (HB3.o.mono B1.o.size)));clear F
  go_upto_region 5 with ((with_reducible refine (T3.o).mono ?_);rintro e w4 ⟨rfl,hb4⟩)
  have HB4:=Hh (HB3.o.trans (hb4.mono HB3.o.size));have HK4:=Hh ((hb4.block _ (Aa HK3.o)).trans HK3.o);have HN4:=Hh ((HN3.o.same fun b q=>hb4.block b q.2).mono fun b q=>(⟨q.1,Ll q.2 hb4.size⟩:w1.heap.size≤b∧b<w4.heap.size))
  have GE:Hid (Calls prog 30 #[.agg (Na n a1 l1 c1 a2 l2 c2),.string ⟨#[118]⟩] w4 (RP 8 w4 (eL n sV))):=Hh (by
   by_cases h5:n.kind=5
   ·have hm:cH 7 n:=(bY h5).1 HF.o.valid
    exact zB _ n sV w4 HN4.o (fun b q=>q.2) h5 hm.len (dO 8 9 n HF.o.valid)
   ·exact aFn _ n sV w4 HN4.o h5)
  have c4:=aA HK4.o;have hver:Hid (mL n (vtS v)=match eL n sV with | some y=>uH y (vtS v) | none=>false):=Hh rfl
  clear hb4 T3 cv TX
  go_upto_region 6 with ((with_reducible refine (GE.o).mono ?_);rintro e w5 ⟨cy,rfl,hy,hb5⟩;obtain ⟨a3,l3,c3,a4,l4,c4',rfl⟩:=hy.slices)
  have b6:=(Br w5.heap.size w5).alloc (o:=.cells #[Iz ((eL n sV).getD nd0).kind,.bool ((eL n sV).getD nd0).bool,Iz ((eL n sV).getD nd0).num,.string ((eL n sV).getD nd0).text,.slice a3 l3 c3,.slice a4 l4 c4'] 28) (Lr _);have k6:=Hn w5 (.cells #[Iz ((eL n sV).getD nd0).kind,.bool ((eL n sV).getD nd0).bool,Iz ((eL n sV).getD nd0).num,.string ((eL n sV).getD nd0).text,.slice a3 l3 c3,.slice a4 l4 c4'] 28);have hb56:=hb5.trans (b6.mono hb5.size);have hn6:=(hy.same (w':=w5.alloc (.cells #[Iz ((eL n sV).getD nd0).kind,.bool ((eL n sV).getD nd0).bool,Iz ((eL n sV).getD nd0).num,.string ((eL n sV).getD nd0).text,.slice a3 l3 c3,.slice a4 l4 c4'] 28)) fun b q=>b6.block b q.2.1).mono fun b q=>Ll q.2.1 b6.size
  clear b6;generalize hy0:(eL n sV).getD nd0=y at k6 hn6 hb56 ⊢;generalize w5.alloc _=w6 at k6 hn6 hb56 ⊢;generalize w5.heap.size=g6 at k6 ⊢;have HB6:=Hh (HB4.o.trans (hb56.mono HB4.o.size));have HK6:=Hh ((hb56.block _ (Aa HK4.o)).trans HK4.o);have HI6:=Hh k6;have HN6:=Hh ((HN4.o.same fun b q=>hb56.block b q.2).mono fun b q=>(⟨q.1,Ll q.2 hb56.size⟩:w1.heap.size≤b∧b<w6.heap.size))
  have HY6:=Hh hn6;have HY0:=Hh hy0;clear hy hb5 k6 hb56 hn6 hy0 c4 GE;cases ho:eL n sV with
  | none=>
   have hv:=hver.o;rw [ho] at hv;have HVER:=Hh (show mL n (vtS v)=false from hv)
   rw [show (none:Option ND).isSome=false from rfl]
   clear ho hv hver HY0;have bd:Below w6.heap.size w6 w6.drew:=(Br _ _).drew;have CK:=Hh (fun (wx:World) (hb:Below w6.heap.size w6 wx)=>aA ((hb.block _ (Aa HK6.o)).trans HK6.o))
   refine aJ (fun w'=>w'.cell? ⟨g3,0,none⟩=some (Iz n.kind)∧w'.cell? ⟨g3,1,none⟩=some (.bool n.bool)∧w'.cell? ⟨g3,2,none⟩=some (Iz n.num)∧w'.cell? ⟨g3,3,none⟩=some (.string n.text)∧w'.cell? ⟨g3,4,none⟩=some (.slice a1 l1 c1)∧w'.cell? ⟨g3,5,none⟩=some (.slice a2 l2 c2)) [0] (.take 0 (.take 1 (.take 2 (eN.join true (.ask 3 true (.ask 4 true (.ask 5 true .stop .stop) .stop) (.ask 4 true (.ask 3 true (.ask 5 true .stop .stop) (.ask 5 true (.ask 3 true .stop .stop) .stop)) .stop)) (.ask 6 true (.take 7 (.ask 8 false (.take 9 .stop) .stop)) .stop))))) (by kernel_rfl) (by kernel_rfl) (fun _ d _ _ _ h=>by cases d <;> exact h) (CK.o _ bd) ?_
   refine aN _ ?_ rfl rfl (by decide) ?_ (fun K hK=>?_);rotate_left;(intro w0 hw0;go_simp;(try rfl));(go_simp;refine hK _ ?_;clear hK K)
   iterate 2 (refine aG _ ?_ rfl rfl ?_ (fun K hK=>?_);rotate_left;(intro w0;go_simp;(try rfl));(go_simp;refine hK _ ?_;clear hK K))
   have HBd:=Hh (HB6.o.trans (bd.mono HB6.o.size));generalize w6.drew=wd at bd HBd ⊢;have HST:=Hh (CK.o _ bd);refine fC [35,36,37] (fun vs wx=>vs=[undef,undef,undef]∧wx=wd) ?_ ?_
   ·refine aI _ rfl ?_ ?_
    rotate_left
    ·go_wp2_with fail
     refine Seg.mk ⟨HST.o,?_⟩;refine aI _ rfl trivial ?_
     go_wp2_with fail
     refine Seg.mk ⟨HST.o,?_⟩;refine aI _ rfl trivial ?_
     go_wp2_with fail
     refine Seg.mk ⟨HST.o,?_⟩;exact aQ [undef,undef,undef] ⟨rfl,rfl⟩ (by simp only [gX,Act.put,As,Ay,Az])
    ·refine aI _ rfl trivial ?_
     go_wp2_with fail
     refine Seg.mk ⟨HST.o,?_⟩;refine aI _ rfl ?_ ?_;rotate_left
     ·go_wp2_with fail
      refine Seg.mk ⟨HST.o,?_⟩;refine aI _ rfl trivial ?_
      go_wp2_with fail
      refine Seg.mk ⟨HST.o,?_⟩;exact aQ [undef,undef,undef] ⟨rfl,rfl⟩ (by simp only [gX,Act.put,As,Ay,Az])
     ·refine aI _ rfl trivial ?_
      go_wp2_with fail
      refine Seg.mk ⟨HST.o,?_⟩;refine aI _ rfl trivial ?_
      go_wp2_with fail
      refine Seg.mk ⟨HST.o,?_⟩;exact aQ [undef,undef,undef] ⟨rfl,rfl⟩ (by simp only [gX,Act.put,As,Ay,Az])
   ·rintro vs w8 ⟨rfl,hwx⟩
    subst hwx;simp only [gX,Act.put,As,Ay,Az];have HB8:=HBd;have HN8:=Hh ((HN6.o.same (w':=w8) fun b q=>bd.block b q.2).mono fun b q=>(⟨q.1,Ll q.2 bd.size⟩:w1.heap.size≤b∧b<w8.heap.size))
    have HRS:=Hh (hK0.o _ HB8.o).2;have f6:=aD HRS.o;have c6:=aA HRS.o;refine aI _ rfl trivial ?_
    go_wp2_with fail
    refine Seg.mk ⟨HST.o,?_⟩;clear bd;refine aG _ ?_ rfl rfl ?_ (fun K hK=>?_);rotate_left;(intro w0;go_simp;(try rfl));(go_simp;refine hK _ ?_;clear hK K)
    refine aF _ rfl trivial ?_
    go_wp2
    refine Seg.mk ?_;refine aG _ ?_ rfl rfl ?_ (fun K hK=>?_);rotate_left;(intro w0;go_simp;(try rfl));(go_simp;refine hK _ ?_;clear hK K)
    unfold cN
    go_wp2
    refine aP (v:=.bool false) HRS.o results28 rfl rfl rfl ?_;have hg:=aM w8 (w.heap.size+1) (Iz n.kind) (.bool n.bool) (Iz n.num) (.string n.text) (.slice a1 l1 c1) (.slice a2 l2 c2);have hz3:=Z3.o;have hb:=B1.o.trans (HB8.o.mono B1.o.size);refine ⟨(Nc n a1 l1 c1 a2 l2 c2),n,0,by rw [HVER.o];rfl,?_,hb.grown hg hb.size fun b e=>by have:=Ab (show some (w.heap.size+1)=some b from e);omega,HD.o⟩
    exact (HN8.o.same fun b q=>hg.block b q.2 (by intro e;have:=Ab e;have:=q.1;omega)).mono fun b q=>⟨by have:=q.1;omega,Ll q.2 hg.size⟩
  | some y'=>
   have hyy:y=y':=by have:=HY0.o;rw [ho] at this;exact this.symm
   subst hyy;have hv:=hver.o;rw [ho] at hv;have HVER:=Hh (show mL n (vtS v)=uH y (vtS v) from hv)
   rw [show (some y).isSome=true from rfl]
   clear ho hv hver HY0;have bd:Below w6.heap.size w6 w6.drew:=(Br _ _).drew;have CK:=Hh (fun (wx:World) (hb:Below w6.heap.size w6 wx)=>aA ((hb.block _ (Aa HK6.o)).trans HK6.o))
   refine aJ (fun w'=>w'.cell? ⟨g3,0,none⟩=some (Iz n.kind)∧w'.cell? ⟨g3,1,none⟩=some (.bool n.bool)∧w'.cell? ⟨g3,2,none⟩=some (Iz n.num)∧w'.cell? ⟨g3,3,none⟩=some (.string n.text)∧w'.cell? ⟨g3,4,none⟩=some (.slice a1 l1 c1)∧w'.cell? ⟨g3,5,none⟩=some (.slice a2 l2 c2)) [0] (.take 0 (.take 1 (.take 2 (eN.join true (.ask 3 true (.ask 4 true (.ask 5 true .stop .stop) .stop) (.ask 4 true (.ask 3 true (.ask 5 true .stop .stop) (.ask 5 true (.ask 3 true .stop .stop) .stop)) .stop)) (.ask 6 true (.take 7 (.ask 8 false (.take 9 .stop) .stop)) .stop))))) (by kernel_rfl) (by kernel_rfl) (fun _ d _ _ _ h=>by cases d <;> exact h) (CK.o _ bd) ?_
   refine aN _ ?_ rfl rfl (by decide) ?_ (fun K hK=>?_);rotate_left;(intro w0 hw0;go_simp;(try rfl));(go_simp;refine hK _ ?_;clear hK K)
   iterate 2 (refine aG _ ?_ rfl rfl ?_ (fun K hK=>?_);rotate_left;(intro w0;go_simp;(try rfl));(go_simp;refine hK _ ?_;clear hK K))
   have HBd:=Hh (HB6.o.trans (bd.mono HB6.o.size));have HId:=Hh ((bd.block _ (Aa HI6.o)).trans HI6.o);have HYd:=Hh ((HY6.o.same (w':=w6.drew) fun b q=>bd.block b q).mono fun b q=>(Ll q bd.size:b<w6.drew.heap.size))
   generalize w6.drew=wd at bd HBd HId HYd ⊢;refine fC [35,36,37] (fun vs wx=>vs=[.agg (Na y a3 l3 c3 a4 l4 c4'),.string (vtS v),.agg #[Iz 3,.bool false,Iz 0,.string (vtS v),Sn,Sn]]∧Below wd.heap.size wd wx) ?_ ?_
   ·have cI:=aA HId.o
    have HST:=Hh (CK.o _ bd);refine aI _ rfl ?_ ?_;rotate_left
    ·go_wp2_with fail
     refine Seg.mk ⟨HST.o,?_⟩;refine aI _ rfl trivial ?_
     go_wp2_with fail
     refine Seg.mk ⟨HST.o,?_⟩;refine aI _ rfl trivial ?_
     go_wp2_with (go_at_call 50;(with_reducible refine (NT.o _).mono ?_);rintro e w7 ⟨rfl,hb7⟩)
     refine Seg.mk ⟨CK.o _ (bd.trans (hb7.mono bd.size)),?_⟩;exact aQ [.agg (Na y a3 l3 c3 a4 l4 c4'),.string (vtS v),.agg #[Iz 3,.bool false,Iz 0,.string (vtS v),Sn,Sn]] ⟨rfl,hb7⟩ (by simp only [gX,Act.put,As,Ay,Az])
    ·refine aI _ rfl trivial ?_
     go_wp2_with fail
     refine Seg.mk ⟨HST.o,?_⟩;refine aI _ rfl ?_ ?_;rotate_left
     ·go_wp2_with fail
      refine Seg.mk ⟨HST.o,?_⟩;refine aI _ rfl trivial ?_
      go_wp2_with (go_at_call 50;(with_reducible refine (NT.o _).mono ?_);rintro e w7 ⟨rfl,hb7⟩)
      refine Seg.mk ⟨CK.o _ (bd.trans (hb7.mono bd.size)),?_⟩;exact aQ [.agg (Na y a3 l3 c3 a4 l4 c4'),.string (vtS v),.agg #[Iz 3,.bool false,Iz 0,.string (vtS v),Sn,Sn]] ⟨rfl,hb7⟩ (by simp only [gX,Act.put,As,Ay,Az])
     ·refine aI _ rfl trivial ?_
      clear cI
      go_wp2_with (go_at_call 50;(with_reducible refine (NT.o _).mono ?_);rintro e w7 ⟨rfl,hb7⟩)
      have cI:=aA ((hb7.block _ (Aa HId.o)).trans HId.o);have HS7:=Hh (CK.o _ (bd.trans (hb7.mono bd.size)));refine Seg.mk ⟨HS7.o,?_⟩;refine aI _ rfl trivial ?_
      go_wp2_with fail
      refine Seg.mk ⟨HS7.o,?_⟩;exact aQ [.agg (Na y a3 l3 c3 a4 l4 c4'),.string (vtS v),.agg #[Iz 3,.bool false,Iz 0,.string (vtS v),Sn,Sn]] ⟨rfl,hb7⟩ (by simp only [gX,Act.put,As,Ay,Az])
   ·rintro vs wx ⟨rfl,hbx⟩
    simp only [gX,Act.put,As,Ay,Az];have SM:=Hh (JR 9 9 _ _ _ _ y (tN (vtS v)) wx ((HYd.o.same fun b q=>hbx.block b q).mono fun b q=>Ll q hbx.size) ((cC (fun b=>b<wx.heap.size) wx 3 false 0 (vtS v) (by have:=HSZ.o;unfold maxLen;omega)).deeper (show 1≤9 by decide)) (fun b q=>q) (fun b q=>q))
    refine aI _ rfl trivial ?_
    go_wp2_with (go_at_call 54;(with_reducible refine (SM.o).mono ?_);rintro e w8 ⟨bz,rfl,hbz,hb8⟩)
    have hbx8:=hbx.trans (hb8.mono hbx.size);refine Seg.mk ⟨CK.o _ (bd.trans (hbx8.mono bd.size)),?_⟩;have HB8:=Hh (HBd.o.trans (hbx8.mono HBd.o.size));have HN8:=Hh (((HN6.o.same (w':=wd) fun b q=>bd.block b q.2).same fun b q=>hbx8.block b (Ll q.2 bd.size)).mono fun b q=>(⟨q.1,Ll (Ll q.2 bd.size) hbx8.size⟩:w1.heap.size≤b∧b<w8.heap.size))
    have HRS:=Hh (hK0.o _ HB8.o).2;have f6:=aD HRS.o;have c6:=aA HRS.o;have hbz':bz=mL n (vtS v):=by
     rw [HVER.o];cases e:uH y (vtS v) with
     | true=>exact hbz.2 (nB.1 e)
     | false=>
      cases bz with
      | false=>rfl
      | true=>rw [nB.2 (hbz.1 rfl)] at e;cases e
    have HBZ:=Hh hbz';clear hbz hb8 hbx8 hbx bd SM hbz';refine aG _ ?_ rfl rfl ?_ (fun K hK=>?_);rotate_left;(intro w0;go_simp;(try rfl));(go_simp;refine hK _ ?_;clear hK K)
    refine aF _ rfl trivial ?_
    go_wp2
    refine Seg.mk ?_;refine aG _ ?_ rfl rfl ?_ (fun K hK=>?_);rotate_left;(intro w0;go_simp;(try rfl));(go_simp;refine hK _ ?_;clear hK K)
    unfold cN
    go_wp2
    refine aP (v:=.bool bz) HRS.o results28 rfl rfl rfl ?_;have hg:=aM w8 (w.heap.size+1) (Iz n.kind) (.bool n.bool) (Iz n.num) (.string n.text) (.slice a1 l1 c1) (.slice a2 l2 c2);have hz3:=Z3.o;have hb:=B1.o.trans (HB8.o.mono B1.o.size);refine ⟨(Nc n a1 l1 c1 a2 l2 c2),n,0,by rw [HBZ.o];rfl,?_,hb.grown hg hb.size fun b e=>by have:=Ab (show some (w.heap.size+1)=some b from e);omega,HD.o⟩
    exact (HN8.o.same fun b q=>hg.block b q.2 (by intro e;have:=Ab e;have:=q.1;omega)).mono fun b q=>⟨by have:=q.1;omega,Ll q.2 hg.size⟩
 ·have h0':(e0 != 0)=true:=by simp [h0]
  have hnd:n=nd0:=HD.o.bad h0;have HE:Hid ((decide (e0=0) && mL n (vtS v))=false):=Hh (by rw [Ap h0];rfl)
  have HRS:=Hh (hK0.o _ HB3.o).2;have f6:=aD HRS.o;have c6:=aA HRS.o;have HND:=Hh hnd;clear h0 TX NT hnd
  go_wp2
  refine aP (v:=.bool false) HRS.o results28 rfl rfl rfl ?_;have hg:=aM w3 (w.heap.size+1) (Iz 0) (.bool false) (Iz 0) (.string ⟨#[]⟩) (Sn) (Sn);have hb:=B1.o.trans (HB3.o.mono B1.o.size);refine ⟨Y6,n,e0,by rw [HE.o],?_,hb.grown hg hb.size fun b e=>by have:=Ab (show some (w.heap.size+1)=some b from e);omega,HD.o⟩
  rw [HND.o];exact (cC _ _ 0 false 0 ⟨#[]⟩ (by decide)).deeper (by omega)
end Go.Proofs.YtncdpanfefnjlaaGreatDoor