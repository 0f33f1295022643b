import Derived.Test.YtncdpanfefnjlaaGreatDoorLok
import Derived.Test.YtncdpanfefnjlaaGreatDoorLwt
set_option linter.unusedVariables false
set_option linter.unusedSimpArgs false
set_option maxHeartbeats 6400000
set_option maxRecDepth 100000
namespace Go.Proofs.YtncdpanfefnjlaaGreatDoor
open Go.Proofs.Tryz
open Go Go.ChangeShapes Go.WideShapes Go.ChangeAt Go.RowKit
theorem aAy {d e:Nat} {n:ND} {ls:List Bt} {t:Bt} (h:cH 7 n) (hl:ls.length≤900000):jG (d+1) (bQ n ls t):=by
 rw [fB h];obtain ⟨r,e,h1,h2⟩:=kF ls (dN n);have hln:(dN n).length≤256:=by unfold dN;rw [List.length_zip,h.len,Nat.min_self];exact h.most
 have hsz:(lY (dN n) ls (tN t)).length≤1000000:=by
  unfold lY;rw [Bi,e,Lg];omega
 refine ⟨by show (bK _).length≤_;unfold bK;rwa [Bi],by show (List.map _ _).length≤_;rwa [Bi],fun y hy=>?_⟩
 obtain ⟨q,hq,rfl⟩:=Bl.1 hy;obtain ⟨q',hq',rfl⟩:=Bl.1 hq;unfold dR
 split
 ·exact sM t
 ·rename_i hn
  rw [e] at hq';rcases Bb.1 hq' with hq' | hq'
  ·exact dO 7 d _ (h.items _ (List.of_mem_zip hq').2)
  ·exact absurd (h2 q' hq').1 hn
theorem ON {d:Nat} {S:Nat→Prop} (cs:Vl) (x:ND) (vl:Value) (ls:List Bt) (t p:Bt) (k:Int) (g4 g5 g6 g7:Nat) (w:World)
 (c4:w.heap[g4]?=some (.cells cs.toArray 28 (0,0))) (c5:w.cell? ⟨g5,0,none⟩=some vl) (c6:w.cell? ⟨g6,0,none⟩=some (.string p)) (c7:w.cell? ⟨g7,0,none⟩=some (Iz k))
 (h:aC (d+1) S w cs x) (hS:∀b,S b→b<w.heap.size) (hx:cH 7 x) (hl:bE S w vl ls) (hll:ls.length≤900000) (hd:1≤d) (ht:t.size≤100) (hk:wI k) (hF:aB 8 (bQ x ls t)=true→(bQ x ls t).kind=5→AT (bQ x ls t)) (hT:uX w) (hD:DB w) :
 Calls prog 24 #[.string t,.pointer (some ⟨g4,0,none⟩),.pointer (some ⟨g5,0,none⟩),.pointer (some ⟨g6,0,none⟩),.pointer (some ⟨g7,0,none⟩)] w (GY (d+1) (bQ x ls t) p k w):=by
 obtain ⟨a1,l1,c1,a2,l2,c2,rfl⟩:=h.slices;have b0:=(Br w.heap.size w).alloc (o:=.cells Z6 28) (Lr _);have k0:=Hn w (.cells Z6 28);have LOW:Hid (jG (d+1) (bQ x ls t)):=Hh (aAy (e:=0) hx hll);have WT:=Hh (fun (wx:World) (hb:Below w.heap.size w wx)=>EI _ x vl ls t wx (h.same fun b q=>hb.block b (hS b q)) (fun b q=>Ll (hS b q) hb.size) hx (hl.same fun b q=>hb.block b (hS b q)) (by omega) hd ht)
 have FT:=Hh (fun (wx:World) (vn vi:Value) (hb:Below w.heap.size w wx) (hn:aC (d+1) (fun b=>b<wx.heap.size) wx [Iz 5,.bool false,Iz 0,.string ⟨#[]⟩,vn,vi] (bQ x ls t))=>ZG _ (bQ x ls t) p k hk wx hn (fun b q=>q) LOW.o hd hF (hT.below hb) (hD.below hb))
 have CK:=Hh (fun (wx:World) (hb:Below w.heap.size w wx)=>Ai (aA ((hb.block _ (Aa c4)).trans c4)) (Ai ((hb.cell (p:=⟨g5,0,none⟩) (cD c5)).trans c5) (Ai ((hb.cell (p:=⟨g6,0,none⟩) (cD c6)).trans c6) ((hb.cell (p:=⟨g7,0,none⟩) (cD c7)).trans c7))))
 obtain ⟨al,cl,rfl,-⟩:=id hl;clear h hS hx hl hll hd ht hF hT hD c4 c5 c6 c7 hk;generalize bQ x ls t=y at LOW WT FT ⊢
 go_enter func24,ntmps24
 go_upto_region 1 with fail
 have HB0:=Hh b0;have HK0:=Hh k0;clear b0 k0;generalize w.alloc _=w1 at HB0 HK0 ⊢;have bd:Below w1.heap.size w1 w1.drew:=(Br _ _).drew;refine aJ (fun w'=>(w'.cell? ⟨g4,0,none⟩=some (Iz x.kind)∧w'.cell? ⟨g4,1,none⟩=some (.bool x.bool)∧w'.cell? ⟨g4,2,none⟩=some (Iz x.num)∧w'.cell? ⟨g4,3,none⟩=some (.string x.text)∧w'.cell? ⟨g4,4,none⟩=some (.slice a1 l1 c1)∧w'.cell? ⟨g4,5,none⟩=some (.slice a2 l2 c2))∧w'.cell? ⟨g5,0,none⟩=some (.slice al ls.length cl)∧w'.cell? ⟨g6,0,none⟩=some (.string p)∧w'.cell? ⟨g7,0,none⟩=some (Iz k)) [0,1,4,5] (.take 0 (.take 1 (.take 2 (.take 4 (.take 5 (.ask 3 true (.ask 6 false (.take 7 (.take 8 (.take 9 (.ask 10 false (.take 11 (.take 12 .stop)) .stop)))) .stop) .stop)))))) (by kernel_rfl) (by kernel_rfl) (fun _ d _ _ _ h=>by cases d <;> exact h) (CK.o _ (HB0.o.trans (bd.mono HB0.o.size))) ?_
 have HBd:=Hh (HB0.o.trans (bd.mono HB0.o.size));have HKd:=Hh ((bd.block _ (Aa HK0.o)).trans HK0.o);clear bd;generalize w1.drew=wd at HBd HKd ⊢
 iterate 2 (refine aN _ ?_ rfl rfl (by decide) ?_ (fun K hK=>?_);rotate_left;(intro w0 hw0;go_simp;(try rfl));(go_simp;refine hK _ ?_;clear hK K))
 refine aG _ ?_ rfl rfl ?_ (fun K hK=>?_);rotate_left;(intro w0;go_simp;(try rfl));(go_simp;refine hK _ ?_;clear hK K)
 iterate 2 (refine aN _ ?_ rfl rfl (by decide) ?_ (fun K hK=>?_);rotate_left;(intro w0 hw0;go_simp;(try rfl));(go_simp;refine hK _ ?_;clear hK K))
 refine aI _ rfl trivial ?_
 go_wp2_with (go_at_call 26;(with_reducible refine (WT.o _ HBd.o).mono ?_);rintro e w3 ⟨vn,vi,rfl,hn3,hb3⟩)
 have HB3:=Hh (HBd.o.trans (hb3.mono HBd.o.size));have HK3:=Hh ((hb3.block _ (Aa HKd.o)).trans HKd.o);refine Seg.mk ⟨CK.o _ HB3.o,?_⟩;have F3:=Hh (FT.o w3 vn vi HB3.o hn3);clear hn3 hb3 WT FT;refine aF _ rfl trivial ?_
 go_wp2_with (go_at_call 25;(with_reducible refine (F3.o).mono ?_);rintro e w4 ⟨cf,rfl,hn4,hb4⟩;obtain ⟨b1,m1,n1,b2,m2,n2,rfl⟩:=hn4.slices)
 have HB4:=Hh (HB3.o.trans (hb4.mono HB3.o.size));have HK4:=Hh ((hb4.block _ (Aa HK3.o)).trans HK3.o);have HN4:=Hh hn4;have hz:w.heap.size<w3.heap.size:=Aa HK3.o;have f6:=aD HK4.o;have c6:=aA HK4.o;clear hn4 hb4 F3;refine Seg.mk ?_
 iterate 3 (refine aG _ ?_ rfl rfl ?_ (fun K hK=>?_);rotate_left;(intro w0;go_simp;(try rfl));(go_simp;refine hK _ ?_;clear hK K))
 refine aF _ rfl trivial ?_
 go_wp2
 refine Seg.mk ?_
 iterate 2 (refine aG _ ?_ rfl rfl ?_ (fun K hK=>?_);rotate_left;(intro w0;go_simp;(try rfl));(go_simp;refine hK _ ?_;clear hK K))
 unfold cN
 go_wp2
 refine cU (v:=.string (mC y p k)) (v2:=Iz (fM y p k)) HK4.o results24 rfl rfl rfl rfl ?_;have hg:=aM w4 w.heap.size (Iz (jQ y p k).kind) (.bool (jQ y p k).bool) (Iz (jQ y p k).num) (.string (jQ y p k).text) (.slice b1 m1 n1) (.slice b2 m2 n2);refine ⟨[Iz (jQ y p k).kind,.bool (jQ y p k).bool,Iz (jQ y p k).num,.string (jQ y p k).text,.slice b1 m1 n1,.slice b2 m2 n2],rfl,?_,HB4.o.grown hg HB4.o.size fun b e=>by have:=Ab (show some w.heap.size=some b from e);omega⟩
 exact (HN4.o.same fun b q=>hg.block b q.2 (by intro e;have:=Ab e;have:=q.1;omega)).mono fun b q=>⟨by have:=q.1;omega,Ll q.2 hg.size⟩
def RL (d:Nat) (n:ND) (ls:List Bt) (p:Bt) (k:Int) (w:World) (e:Ending) (w':World):Prop:=∃cs:Vl,e=.returned (.tuple #[.agg cs.toArray,.string (spS n ls p k),Iz (spE n ls p k)])∧aC d (fun b=>w.heap.size≤b∧b<w'.heap.size) w' cs (spX n ls p k)∧Below w.heap.size w w'
theorem pE {d:Nat} {n:ND} {ls:List Bt} {p:Bt} {k er:Int} {w w':World} {e:Ending} (he:spE n ls p k=er) (h0:er ≠ 0) (h:e=.returned (.tuple #[.agg Z6,.string ⟨#[]⟩,Iz er])) (hb:Below w.heap.size w w'):RL (d+1) n ls p k w e w':=by
 have e1:spX n ls p k=nd0:=by unfold spX;rw [he,Af h0]
 have e2:spS n ls p k=⟨#[]⟩:=by unfold spS;rw [he,Af h0]
 rw [RL,e1,e2,he];exact ⟨Y6,h,(cC _ w' 0 false 0 ⟨#[]⟩ (by decide)).deeper (show 1≤d+1 by omega),hb⟩
structure SpW (w:World) (cx:Array Value) (vl:Value) (p:Bt) (k:Int) (wr:World):Prop where
 box:wr.heap[w.heap.size]?=some (.cells cx 28 (0,0))
 lab:wr.cell? ⟨w.heap.size+1,0,none⟩=some vl
 pro:wr.cell? ⟨w.heap.size+1+1,0,none⟩=some (.string p)
 frm:wr.cell? ⟨w.heap.size+1+1+1,0,none⟩=some (Iz k)
 res:wr.heap[w.heap.size+1+1+1+1]?=some (.cells Z6 28 (0,0))
 bel:Below w.heap.size w wr
theorem SpW.step {w wr wn:World} {cx:Array Value} {vl:Value} {p:Bt} {k:Int} (h:SpW w cx vl p k wr) (hb:Below wr.heap.size wr wn):SpW w cx vl p k wn:=
 ⟨(hb.block _ (Aa h.box)).trans h.box,(hb.cell (p:=⟨_,0,none⟩) (cD h.lab)).trans h.lab,(hb.cell (p:=⟨_,0,none⟩) (cD h.pro)).trans h.pro,(hb.cell (p:=⟨_,0,none⟩) (cD h.frm)).trans h.frm,(hb.block _ (Aa h.res)).trans h.res,h.bel.trans (hb.mono h.bel.size)⟩
theorem SpW.end_ {w wr:World} {cx:Array Value} {vl:Value} {p:Bt} {k:Int} (h:SpW w cx vl p k wr) (a b c d e f:Value):Below w.heap.size w (dE wr (w.heap.size+1+1+1+1) a b c d e f):=
 h.bel.grown (aM wr _ a b c d e f) h.bel.size (fun g e=>by have:=Ab (show some (w.heap.size+1+1+1+1)=some g from e);omega)
theorem JV {d:Nat} {S:Nat→Prop} (cs:Vl) (x:ND) (vl:Value) (ls:List Bt) (p:Bt) (k:Int) (w:World) (h:aC (d+1) S w cs x) (hS:∀b,S b→b<w.heap.size) (hlow:jG (d+1) x) (hl:bE S w vl ls) (hll:ls.length≤900000) (hd:1≤d) (hk:wI k) (hN:aB 8 x=true→aO 8 x=true) (hF:cH 7 x→∀c:Bt,c.size=44→aB 8 (bQ x ls c)=true→AT (bQ x ls c)) (hT:uX w) (hD:DB w) (hH:GP w) (hL:Lay w) :
 Calls prog 10 #[.agg cs.toArray,vl,.string p,Iz k] w (RL (d+1) x ls p k w):=by
 obtain ⟨a1,l1,c1,a2,l2,c2,rfl⟩:=h.slices;obtain ⟨al,cl,rfl,hcl1,hcl2,-⟩:=id hl;obtain ⟨w1,hw1⟩:∃W,W=((((w.alloc (.cells #[Iz x.kind,.bool x.bool,Iz x.num,.string x.text,.slice a1 l1 c1,.slice a2 l2 c2] 28)).alloc (.cells #[.slice al ls.length cl] 25)).alloc (.cells #[.string p] 9)).alloc (.cells #[Iz k] 3)).alloc (.cells Z6 28):=⟨_,rfl⟩;have hW:SpW w #[Iz x.kind,.bool x.bool,Iz x.num,.string x.text,.slice a1 l1 c1,.slice a2 l2 c2] (.slice al ls.length cl) p k w1:=by
  have n0:=Hn w (.cells #[Iz x.kind,.bool x.bool,Iz x.num,.string x.text,.slice a1 l1 c1,.slice a2 l2 c2] 28);have z0:(w.alloc (.cells #[Iz x.kind,.bool x.bool,Iz x.num,.string x.text,.slice a1 l1 c1,.slice a2 l2 c2] 28)).heap.size=w.heap.size+1:=by simp
  have b0:=(Br w.heap.size w).alloc (o:=.cells #[Iz x.kind,.bool x.bool,Iz x.num,.string x.text,.slice a1 l1 c1,.slice a2 l2 c2] 28) (Lr _);generalize w.alloc _=u0 at *;have n1:=Hn u0 (.cells #[.slice al ls.length cl] 25);have z1:(u0.alloc (.cells #[.slice al ls.length cl] 25)).heap.size=u0.heap.size+1:=by simp
  have b1:=(Br u0.heap.size u0).alloc (o:=.cells #[.slice al ls.length cl] 25) (Lr _);generalize u0.alloc _=u1 at *;have n2:=Hn u1 (.cells #[.string p] 9);have z2:(u1.alloc (.cells #[.string p] 9)).heap.size=u1.heap.size+1:=by simp
  have b2:=(Br u1.heap.size u1).alloc (o:=.cells #[.string p] 9) (Lr _);generalize u1.alloc _=u2 at *;have n3:=Hn u2 (.cells #[Iz k] 3);have z3:(u2.alloc (.cells #[Iz k] 3)).heap.size=u2.heap.size+1:=by simp
  have b3:=(Br u2.heap.size u2).alloc (o:=.cells #[Iz k] 3) (Lr _);generalize u2.alloc _=u3 at *;have n4:=Hn u3 (.cells Z6 28);have b4:=(Br u3.heap.size u3).alloc (o:=.cells Z6 28) (Lr _);rw [←hw1] at n4 b4;have e1:u0.heap.size=w.heap.size+1:=z0;have e2:u1.heap.size=w.heap.size+1+1:=by omega
  have e3:u2.heap.size=w.heap.size+1+1+1:=by omega
  have e4:u3.heap.size=w.heap.size+1+1+1+1:=by omega
  have b34:=b3.trans (b4.mono b3.size);have b234:=b2.trans (b34.mono b2.size);have b1234:=b1.trans (b234.mono b1.size);refine ⟨(b1234.block _ (Aa n0)).trans n0,aL (by rw [←e1];exact (b234.block _ (Aa n1)).trans n1) rfl,aL (by rw [←e2];exact (b34.block _ (Aa n2)).trans n2) rfl,aL (by rw [←e3];exact (b4.block _ (Aa n3)).trans n3) rfl,by rw [←e4];exact n4,b0.trans (b1234.mono b0.size)⟩
 have HW:=Hh hW;have HL:=Hh hl;have HN:=Hh h;have HS:=Hh hS;have SC:Hid (∀wx,Below w.heap.size w wx→Calls prog 21 #[.slice al ls.length cl,.string ⟨#[118]⟩] wx fun e w'=>e=.returned (.bool (decide (sV ∈ ls)))∧wx=w'):=Hh (fun (wx:World) (hb:Below w.heap.size w wx)=>UW (.slice al ls.length cl) ls sV wx (hl.same fun b q=>hb.block b (hS b q)))
 have HV:=Hh (fun wx:World=>QG p k hk wx)
 have HI:=Hh (fun (wx:World) (hb:Below w.heap.size w wx)=>oL _ x wx (h.same fun b q=>hb.block b (hS b q)) (fun b q=>Ll (hS b q) hb.size) hlow (hT.below hb).u)
 have SP:=Hh (rV x ls p k hN);have HLL:=Hh hll;have HDD:=Hh hd;have HK:=Hh hk;have HNM:=Hh hN;have HF:=Hh hF;have HT:=Hh hT;have HD:=Hh hD;have HH:=Hh hH;have HLy:=Hh hL;clear h hS hlow hl hll hd hk hN hF hT hD hH hL;rcases SP.o with ⟨hbad,hE⟩ | ⟨hne,hv,hval,hbad,hE⟩ | ⟨hne,hv,hval,hm,hnum,hE,hE2⟩
 ·have HE:=Hh hE
  clear hE SP
  by_cases h0:ls=[]
  ·have HL0:Hid ((ls.length:Int)=0):=Hh (by rw [h0];rfl)
   clear hbad h0
   go_enter func10,ntmps10
   go_upto_region 1 with fail
   rw [←hw1];clear hw1;have hl0:=HL0.o;have q1:=hW.lab;have f6:=aD hW.res;have c6:=aA hW.res;clear hW
   go_wp2
   refine cU (v:=.string ⟨#[]⟩) (v2:=Iz 2) HW.o.res results10 rfl rfl rfl rfl ?_;exact pE HE.o (by decide) rfl (HW.o.end_ _ _ _ _ _ _)
  ·have hl0:¬ (ls.length:Int)=0:=fun e=>h0 (Au.1 (by omega))
   by_cases hv:sV ∈ ls
   ·simp only [An hv] at SC
    clear hbad hv
    go_enter func10,ntmps10
    go_upto_region 1 with fail
    rw [←hw1];clear hw1;have q1:=hW.lab;have f6:=aD hW.res;have c6:=aA hW.res;clear hW
    go_wp2_with (go_at_call 21;(with_reducible refine (SC.o _ HW.o.bel).mono ?_);rintro e w2 ⟨rfl,rfl⟩)
    refine cU (v:=.string ⟨#[]⟩) (v2:=Iz 2) HW.o.res results10 rfl rfl rfl rfl ?_;exact pE HE.o (by decide) rfl (HW.o.end_ _ _ _ _ _ _)
   ·simp only [Ap hv] at SC
    have hvv:aU ⟨p,1,0,k,0⟩=false:=hbad.elim (fun g=>absurd g h0) fun g=>g.elim (fun g=>absurd g hv) id
    rw [hvv] at HV;clear hbad hv hvv
    go_enter func10,ntmps10
    go_upto_region 1 with fail
    rw [←hw1];clear hw1;have q1:=hW.lab;have q2:=hW.pro;have q3:=hW.frm;clear hW
    go_upto_region 2 with (first
     | (go_at_call 21;(with_reducible refine (SC.o _ HW.o.bel).mono ?_);rintro e w2 ⟨rfl,rfl⟩)
     | (go_at_call 22;(with_reducible refine (HV.o _).mono ?_);rintro e w3 ⟨rfl,hb3⟩))
    have HW3:=Hh (HW.o.step hb3);have f6:=aD HW3.o.res;have c6:=aA HW3.o.res;clear q1 q2 q3 hb3
    go_wp2
    refine cU (v:=.string ⟨#[]⟩) (v2:=Iz 2) HW3.o.res results10 rfl rfl rfl rfl ?_;exact pE HE.o (by decide) rfl (HW3.o.end_ _ _ _ _ _ _)
 all_goals
  have hl0:¬ (ls.length:Int)=0:=fun e=>hne (Au.1 (by omega))
  have hl1:((ls.length:Int) == 0)=false:=by rw [Db];exact hl0
  simp only [Ap hv] at SC;rw [hval] at HV
 ·have HE:=Hh hE
  clear hE SP hne hv hval
  by_cases h5:x.kind=5
  ·have hnv:aB 8 x=false:=by
    cases e:aB 8 x with
    | false=>rfl
    | true=>exact absurd ⟨h5,e⟩ hbad
   simp only [hnv] at HI;clear hbad hnv;rw [h5] at hw1 hW HW HI;rw [h5]
   go_enter func10,ntmps10
   go_upto_region 1 with fail
   rw [←hw1];clear hw1;have q1:=hW.lab;have q2:=hW.pro;have q3:=hW.frm;clear hW
   go_upto_region 3 with (first
    | (go_at_call 21;(with_reducible refine (SC.o _ HW.o.bel).mono ?_);rintro e w2 ⟨rfl,rfl⟩)
    | (go_at_call 22;(with_reducible refine (HV.o _).mono ?_);rintro e w3 ⟨rfl,hb3⟩))
   have HW3:=Hh (HW.o.step hb3);have cb:=aA HW3.o.box;clear q1 q2 q3 hb3
   go_upto_region 4 with ((with_reducible refine (HI.o _ HW3.o.bel).mono ?_);rintro e w4 ⟨rfl,hb4⟩)
   have HW4:=Hh (HW3.o.step hb4);have f6:=aD HW4.o.res;have c6:=aA HW4.o.res;clear cb hb4
   go_wp2
   refine cU (v:=.string ⟨#[]⟩) (v2:=Iz 1) HW4.o.res results10 rfl rfl rfl rfl ?_;exact pE HE.o (by decide) rfl (HW4.o.end_ _ _ _ _ _ _)
  ·clear hbad
   go_enter func10,ntmps10
   go_upto_region 1 with fail
   rw [←hw1];clear hw1;have q1:=hW.lab;have q2:=hW.pro;have q3:=hW.frm;clear hW
   go_upto_region 3 with (first
    | (go_at_call 21;(with_reducible refine (SC.o _ HW.o.bel).mono ?_);rintro e w2 ⟨rfl,rfl⟩)
    | (go_at_call 22;(with_reducible refine (HV.o _).mono ?_);rintro e w3 ⟨rfl,hb3⟩))
   have HW3:=Hh (HW.o.step hb3);have cb:=aA HW3.o.box;have f6:=aD HW3.o.res;have c6:=aA HW3.o.res;clear q1 q2 q3 hb3
   go_wp2
   refine cU (v:=.string ⟨#[]⟩) (v2:=Iz 1) HW3.o.res results10 rfl rfl rfl rfl ?_;exact pE HE.o (by decide) rfl (HW3.o.end_ _ _ _ _ _ _)
 ·have h5:x.kind=5:=hm.kind
  have hnv:aB 8 x=true:=(bY h5).2 hm;simp only [hnv] at HI;rw [h5] at hw1 hW HW HI HN;have PF:=Hh (fun (t:Bt) (ht:t.size=44) (wx:World) (hw:SpW w #[Iz 5,.bool x.bool,Iz x.num,.string x.text,.slice a1 l1 c1,.slice a2 l2 c2] (.slice al ls.length cl) p k wx)=>ON (d:=d) _ x (.slice al ls.length cl) ls t p k w.heap.size (w.heap.size+1) (w.heap.size+1+1) (w.heap.size+1+1+1) wx hw.box hw.lab hw.pro hw.frm (HN.o.same fun b q=>hw.bel.block b (HS.o b q)) (fun b q=>Ll (HS.o b q) hw.bel.size) hm (HL.o.same fun b q=>hw.bel.block b (HS.o b q)) HLL.o HDD.o (by omega) HK.o (fun a _=>HF.o hm t ht a) (HT.o.below hw.bel) (HD.o.below hw.bel))
  have HE:=Hh hE;have HE2:=Hh hE2;have DU:=Hh (fun (wx:World) (hb:Below w.heap.size w wx)=>DS wx (HLy.o.go hb))
  have DG:=Hh (fun (wx:World) (hb:Below w.heap.size w wx)=>QS (mC (bQ x ls iK) p k) wx (by unfold mC;split <;> first | exact Ae (GA k _) (by decide) | exact Ax _) (HH.o.below hb) (HLy.o.go hb))
  have hmf:∀ (fn:Fn) (first cap:Array Value) (w:World),(Instr.makeFunc fn first cap).run prog w=.ok (.func fn first cap) w:=fun _ _ _ _=>rfl
  rw [h5];clear hnum hE hE2 SP hne hv hval hm hnv h5
  go_enter func10,ntmps10
  go_upto_region 1 with fail
  rw [←hw1];clear hw1;have q1:=hW.lab;have q2:=hW.pro;have q3:=hW.frm;clear hW
  go_upto_region 3 with (first
   | (go_at_call 21;(with_reducible refine (SC.o _ HW.o.bel).mono ?_);rintro e w2 ⟨rfl,rfl⟩)
   | (go_at_call 22;(with_reducible refine (HV.o _).mono ?_);rintro e w3 ⟨rfl,hb3⟩))
  have HW3:=Hh (HW.o.step hb3);have cb:=aA HW3.o.box;clear q1 q2 q3 hb3
  go_upto_region 5 with ((with_reducible refine (HI.o _ HW3.o.bel).mono ?_);rintro e w4 ⟨rfl,hb4⟩)
  have HW4:=Hh (HW3.o.step hb4);clear cb hb4 SC HV HI;have D4:=Hh (DU.o _ HW4.o.bel)
  go_upto_region 6 with fail
  go_upto_region 7 with (first
   | (go_at_call 16;(with_reducible refine (D4.o).mono ?_);rintro e w5 ⟨rfl,hb5⟩)
   | (go_at_call 24;(with_reducible refine (PF.o iK rfl w5 (HW4.o.step hb5)).mono ?_);rintro e w6 ⟨cf,rfl,hn6,hb6⟩;obtain ⟨b1,m1,n1,b2,m2,n2,rfl⟩:=hn6.slices))
  have b7:=(Br w6.heap.size w6).alloc (o:=.cells #[Iz (jQ (bQ x ls iK) p k).kind,.bool (jQ (bQ x ls iK) p k).bool,Iz (jQ (bQ x ls iK) p k).num,.string (jQ (bQ x ls iK) p k).text,.slice b1 m1 n1,.slice b2 m2 n2] 28) (Lr _);have HW7:=Hh (((HW4.o.step hb5).step hb6).step b7);clear hn6 hb5 hb6 b7 D4;generalize w6.alloc _=w7 at HW7 ⊢
  by_cases h0:fM (bQ x ls iK) p k=0
  ·have HE0:=Hh (HE.o.trans h0)
   have HE20:=Hh (HE2.o.trans h0);rw [h0];clear h0;have D7:=Hh (DG.o _ HW7.o.bel);have hdsz:(rD (mC (bQ x ls iK) p k)).size=44:=(lC _).1;have PF2:=Hh (fun (wx:World) (hw:SpW w #[Iz 5,.bool x.bool,Iz x.num,.string x.text,.slice a1 l1 c1,.slice a2 l2 c2] (.slice al ls.length cl) p k wx)=>PF.o (rD (mC (bQ x ls iK) p k)) hdsz wx hw)
   have hSM:bQ x ls (rD (mC (bQ x ls iK) p k))=spM x ls p k:=rfl;rw [hSM] at PF2;have HR:Hid (spX x ls p k=jQ (spM x ls p k) p k∧spS x ls p k=mC (spM x ls p k) p k∧spE x ls p k=fM (spM x ls p k) p k):=Hh (by
    unfold spX spS jQ mC;rw [HE0.o,HE20.o];exact ⟨rfl,rfl,rfl⟩)
   generalize rD (mC (bQ x ls iK) p k)=dg at D7 PF2;generalize mC (bQ x ls iK) p k=ds at D7 ⊢;generalize spM x ls p k=y at PF2 HR;clear PF DG DU hdsz hSM HE20
   go_upto_region 9 with fail
   go_wp2_with (first
    | (go_at_call 18;(with_reducible refine (D7.o).mono ?_);rintro e w8 ⟨rfl,hb8⟩)
    | (go_at_call 24;(with_reducible refine (PF2.o w8 (HW7.o.step hb8)).mono ?_);rintro e w9 ⟨cf,rfl,hn9,hb9⟩;obtain ⟨b3,m3,n3,b4,m4,n4,rfl⟩:=hn9.slices;(have HW9:=Hh ((HW7.o.step hb8).step hb9));(have f6:=aD HW9.o.res);(have c6:=aA HW9.o.res)))
   refine cU (v:=.string (mC y p k)) (v2:=Iz (fM y p k)) HW9.o.res results10 rfl rfl rfl rfl ?_;have hg:=aM w9 (w.heap.size+1+1+1+1) (Iz (jQ y p k).kind) (.bool (jQ y p k).bool) (Iz (jQ y p k).num) (.string (jQ y p k).text) (.slice b3 m3 n3) (.slice b4 m4 n4);have hz:w.heap.size+1+1+1+1<w8.heap.size:=Aa (HW7.o.step hb8).res;refine ⟨[Iz (jQ y p k).kind,.bool (jQ y p k).bool,Iz (jQ y p k).num,.string (jQ y p k).text,.slice b3 m3 n3,.slice b4 m4 n4],by rw [HR.o.2.1,HR.o.2.2],?_,HW9.o.end_ _ _ _ _ _ _⟩
   rw [HR.o.1];exact (hn9.same fun b q=>hg.block b q.2 (by intro e;have:=Ab e;have:=q.1;omega)).mono fun b q=>⟨by have:=q.1;omega,Ll q.2 hg.size⟩
  ·have h0':(fM (bQ x ls iK) p k != 0)=true:=by simp [h0]
   have H0:=Hh h0;have f6:=aD HW7.o.res;have c6:=aA HW7.o.res;generalize fM (bQ x ls iK) p k=er at HE H0 h0' ⊢;generalize mC (bQ x ls iK) p k=ds;clear h0 PF DG DU HE2
   go_wp2
   refine cU (v:=.string ⟨#[]⟩) (v2:=Iz er) HW7.o.res results10 rfl rfl rfl rfl ?_;exact pE HE.o H0.o rfl (HW7.o.end_ _ _ _ _ _ _)
end Go.Proofs.YtncdpanfefnjlaaGreatDoor