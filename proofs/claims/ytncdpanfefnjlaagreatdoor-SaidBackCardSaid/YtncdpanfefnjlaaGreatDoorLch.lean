import Derived.Test.YtncdpanfefnjlaaGreatDoorLcp
import Derived.Test.YtncdpanfefnjlaaGreatDoorLpt
import Derived.Test.YtncdpanfefnjlaaGreatDoorVpu
set_option linter.unusedVariables false
set_option linter.unusedSimpArgs false
set_option maxHeartbeats 6400000
set_option maxRecDepth 100000
namespace Go.Proofs.YtncdpanfefnjlaaGreatDoor
open Go.Proofs.Tryz
open Go Go.ChangeShapes Go.WideShapes Go.ChangeAt Go.RowKit
theorem vZ {l:Ub} {v:VD} {j:Nat}:∀ {n i:Nat},dZ l n i=some (v,j)→aU v=true
 | 0,_,h=>by cases h
 | n+1,i,h=>by
  unfold dZ at h
  split at h
  ·split at h
   ·rename_i v' hv
    have e:=Ab h;have:=(CZ.1 hv).1;rw [show v'=v from Ad Prod.fst e] at this
    exact this
   ·exact vZ h
  ·cases h
theorem aCh (k:Int) (s:Bt):∃n e0,wS k s n e0:=by
 have key:∀W:ND→Ub,(∃y,aB 8 y=true∧aO 8 y=true∧s.size≤65536∧W y=s.data.toList)∨∀y,aB 8 y=true→aO 8 y=true→s.size≤65536→W y ≠ s.data.toList:=fun W=>by
  by_cases h:∃y,aB 8 y=true∧aO 8 y=true∧s.size≤65536∧W y=s.data.toList
  ·exact .inl h
  ·exact .inr fun y a b c e=>h ⟨y,a,b,c,e⟩
 rcases zS k with rfl | rfl | rfl | hk
 ·rcases key (aT 8) with ⟨y,a,b,c,e⟩ | h
  ·exact ⟨y,0,.inl ⟨rfl,.inl ⟨rfl,a,b,e,c⟩⟩⟩
  ·exact ⟨nd0,4,.inl ⟨rfl,.inr ⟨rfl,rfl,h⟩⟩⟩
 ·rcases key (bJ 8) with ⟨y,a,b,c,e⟩ | h
  ·exact ⟨y,0,.inr (.inl ⟨rfl,.inl ⟨rfl,a,b,e,c⟩⟩)⟩
  ·exact ⟨nd0,4,.inr (.inl ⟨rfl,.inr ⟨rfl,rfl,h⟩⟩)⟩
 ·rcases key (bL 8) with ⟨y,a,b,c,e⟩ | h
  ·exact ⟨y,0,.inr (.inr (.inl ⟨rfl,.inl ⟨rfl,a,b,e,c⟩⟩))⟩
  ·exact ⟨nd0,4,.inr (.inr (.inl ⟨rfl,.inr ⟨rfl,rfl,h⟩⟩))⟩
 ·exact ⟨nd0,2,.inr (.inr (.inr ⟨hk,rfl,rfl⟩))⟩
def aEq (s:Bt) (ls:List Bt) (w:World) (e:Ending) (w':World):Prop:=(dZ s.data.toList 25 0=none∧e=.returned (.tuple #[.agg Z6,.string ⟨#[]⟩,Iz 10])∧Below w.heap.size w w')
 ∨ ∃ (v:VD) (j:Nat) (n:ND) (e0:Int) (cs:Vl),dZ s.data.toList 25 0=some (v,j)∧wS v.f s n e0∧e=.returned (.tuple #[.agg cs.toArray,.string (ckS s ls v n e0),Iz (ckE s ls v n e0)])∧aC 9 (fun b=>w.heap.size≤b∧b<w'.heap.size) w' cs (ckX s ls v n e0)∧Below w.heap.size w w'
theorem sX {s:Bt} {ls:List Bt} {v:VD} {n:ND} {j:Nat} {e0 er:Int} {w w':World} {e:Ending} (hf:dZ s.data.toList 25 0=some (v,j)) (hd:wS v.f s n e0) (he:ckE s ls v n e0=er) (h0:er ≠ 0) (h:e=.returned (.tuple #[.agg Z6,.string ⟨#[]⟩,Iz er])) (hb:Below w.heap.size w w'):aEq s ls w e w':=by
 refine .inr ⟨v,j,n,e0,Y6,hf,hd,?_,?_,hb⟩
 ·unfold ckS;rw [he,Af h0];exact h
 ·unfold ckX;rw [he,Af h0];exact (cC _ w' 0 false 0 ⟨#[]⟩ (by decide)).deeper (show 1≤9 by omega)
structure CkW (w:World) (gv:Nat) (v:VD) (wr:World):Prop where
 res:wr.heap[w.heap.size]?=some (.cells Z6 28 (0,0))
 ver:wr.heap[gv]?=some (.cells #[.string v.p,Iz v.a,Iz v.b,Iz v.f,Iz v.z] 58 (0,0))
 bel:Below w.heap.size w wr
theorem CkW.step {w wr wn:World} {gv:Nat} {v:VD} (h:CkW w gv v wr) (hb:Below wr.heap.size wr wn):CkW w gv v wn:=
 ⟨(hb.block _ (Aa h.res)).trans h.res,(hb.block _ (Aa h.ver)).trans h.ver,h.bel.trans (hb.mono h.bel.size)⟩
theorem CkW.end_ {w wr:World} {gv:Nat} {v:VD} (h:CkW w gv v wr) (a b c d e f:Value):Below w.heap.size w (dE wr w.heap.size a b c d e f):=
 h.bel.grown (aM wr _ a b c d e f) h.bel.size (fun g e=>by have:=Ab (show some w.heap.size=some g from e);omega)
theorem RA {S:Nat→Prop} (s:Bt) (vl:Value) (ls:List Bt) (w:World) (hl:bE S w vl ls) (hS:∀b,S b→b<w.heap.size) (hll:ls.length≤900000) (hs:s.size≤1000000) (hF:∀v j n,dZ s.data.toList 25 0=some (v,j)→wS v.f s n 0→cH 7 n→(∀l,l ∈ ls→l ∈ n.names)→∀c:Bt,c.size=44→aB 8 (bQ n ls c)=true→AT (bQ n ls c)) (hT:uX w) (hD:DB w) (hH:GP w) (hL:Lay w) :
 Calls prog 11 #[.string s,vl] w (aEq s ls w):=by
 obtain ⟨al,cl,rfl,hcl1,hcl2,-⟩:=id hl;have b0:=(Br w.heap.size w).alloc (o:=.cells Z6 28) (Lr _);have k0:=Hn w (.cells Z6 28);have FI:=Hh (fun (wx:World) (hb:Below w.heap.size w wx)=>UL s wx hs (hD.below hb) (show AP wx from (hT.below hb).e.1))
 unfold aEm vcs at FI;have HLS:=Hh hl;have HS:=Hh hS;have HLL:=Hh hll;have HF:=Hh hF;have HT:=Hh hT;have HDB:=Hh hD;have HH:=Hh hH;have HLy:=Hh hL;clear hl hS hll hF hT hD hH hL hs
 go_enter func11,ntmps11
 go_upto_region 1 with fail
 have HB0:=Hh b0;have HK0:=Hh k0;clear b0 k0;generalize w.alloc _=w1 at HB0 HK0 ⊢;have F1:=Hh (FI.o w1 HB0.o);clear FI;cases hfd:dZ s.data.toList 25 0 with
 | none=>
  obtain ⟨e1,e2,e3⟩:=TG hfd;rw [e1,e2,e3] at F1;have HFD:=Hh hfd;clear e1 e2 e3 hfd
  go_upto_region 2 with ((with_reducible refine (F1.o).mono ?_);rintro e w2 ⟨rfl,hb2⟩)
  have b3:=(Br w2.heap.size w2).alloc (o:=.cells #[.string v0.p,Iz v0.a,Iz v0.b,Iz v0.f,Iz v0.z] 58) (Lr _);have hb3:=hb2.trans (b3.mono hb2.size);generalize w2.alloc _=w3 at hb3 ⊢;have HB3:=Hh (HB0.o.trans (hb3.mono HB0.o.size));have HK3:=Hh ((hb3.block _ (Aa HK0.o)).trans HK0.o);have f6:=aD HK3.o;have c6:=aA HK3.o;clear hb2 b3 hb3 F1
  go_wp2
  refine cU (v:=.string ⟨#[]⟩) (v2:=Iz 10) HK3.o results11 rfl rfl rfl rfl ?_;exact .inl ⟨HFD.o,rfl,HB3.o.grown (aM w3 _ _ _ _ _ _ _) HB3.o.size (fun g e=>by have:=Ab (show some w.heap.size=some g from e);omega)⟩
 | some vj=>
  obtain ⟨v,j⟩:=vj;obtain ⟨e1,e2,e3⟩:=TF hfd;rw [e1,e2,e3] at F1;have HFD:=Hh hfd;have HVV:=Hh (vZ hfd);clear e1 e2 e3 hfd
  go_upto_region 2 with ((with_reducible refine (F1.o).mono ?_);rintro e w2 ⟨rfl,hb2⟩)
  have b3:=(Br w2.heap.size w2).alloc (o:=.cells #[.string v.p,Iz v.a,Iz v.b,Iz v.f,Iz v.z] 58) (Lr _);have k3:=Hn w2 (.cells #[.string v.p,Iz v.a,Iz v.b,Iz v.f,Iz v.z] 58);have hb3:=hb2.trans (b3.mono hb2.size);generalize w2.alloc _=w3 at hb3 k3 ⊢;generalize w2.heap.size=gv at k3 ⊢;have HW3:Hid (CkW w gv v w3):=Hh ⟨(hb3.block _ (Aa HK0.o)).trans HK0.o,k3,HB0.o.trans (hb3.mono HB0.o.size)⟩;have c5:=dM k3;clear hb2 b3 hb3 F1 HB0 HK0 k3
  by_cases hz:v.z=(s.size:Int)
  ·have MW:=Hh (KQ v HVV.o s w3 (HT.o.below HW3.o.bel) (HDB.o.below HW3.o.bel))
   unfold aEe vcs at MW;have HZ:=Hh hz
   go_upto_region 6 with fail
   clear hz
   go_upto_region 7 with ((with_reducible refine (MW.o).mono ?_);rintro e w4 ⟨cn,n,e0,rfl,hn,hb4,hd⟩;obtain ⟨a1,l1,c1,a2,l2,c2,rfl⟩:=hn.slices)
   have b5:=(Br w4.heap.size w4).alloc (o:=.cells (Na n a1 l1 c1 a2 l2 c2) 28) (Lr _);have k5:=Hn w4 (.cells (Na n a1 l1 c1 a2 l2 c2) 28);have hb5:=hb4.trans (b5.mono hb4.size);have hn5:=(hn.same fun b q=>b5.block b q.2).mono fun b q=>(⟨q.1,Ll q.2 b5.size⟩:w3.heap.size≤b∧b<(w4.alloc (.cells (Na n a1 l1 c1 a2 l2 c2) 28)).heap.size)
   generalize w4.alloc _=w5 at hb5 hn5 k5 ⊢;have HGN:Hid (w.heap.size<w4.heap.size):=Hh (by have h1:=Aa HW3.o.res;have h2:=hb4.size;omega)
   generalize w4.heap.size=gn at k5 HGN ⊢;have HW5:=Hh (HW3.o.step hb5);have HK5:=Hh k5;have hzz:w.heap.size<w3.heap.size:=Aa HW3.o.res;have HN5:=Hh (hn5.mono fun b q=>(⟨by have:=q.1;omega,q.2⟩:w.heap.size<b∧b<w5.heap.size))
   have HD:=Hh hd;clear hn hb4 b5 hb5 hn5 hd c5 MW k5 hzz;rcases ME s ls v n e0 with ⟨g,-⟩ | ⟨-,g,hE⟩ | ⟨-,g1,g2,g3,hE⟩ | ⟨-,g1,g2,g3,g4,g5,hE⟩ | ⟨-,g1,g2,g3,g4,g5,g6,hE⟩
   ·exact absurd HZ.o g
   ·rw [g]
    have HE:=Hh hE;have f6:=aD HW5.o.res;have c6:=aA HW5.o.res;clear g hE
    go_wp2
    refine cU (v:=.string ⟨#[]⟩) (v2:=Iz 4) HW5.o.res results11 rfl rfl rfl rfl ?_;exact sX HFD.o HD.o HE.o (by decide) rfl (HW5.o.end_ _ _ _ _ _ _)
   all_goals
    subst g1;have hver:(decide ((0:Int)=0) && mL n (vtS v))=true:=by rw [uG.2 g2];rfl
    rw [hver];have h5:n.kind=5:=by
     unfold eL at g2
     split at g2
     ·assumption
     ·cases g2
    have FK:=HD.o.good.1;have hm:cH 7 n:=(bY h5).1 FK.valid;have HTX:=Hh (fun (wx:World) (hb:Below w5.heap.size w5 wx)=>FY (d:=8) _ n (.slice al ls.length cl) ls wx ((HN5.o.same fun b q=>hb.block b q.2).mono fun b q=>(.inl (Ll q.2 hb.size):b<wx.heap.size∨S b)) ((HLS.o.same fun b q=>(HW5.o.bel.trans (hb.mono HW5.o.bel.size)).block b (HS.o b q)).mono fun b q=>.inr q) (fun b q=>q.elim id fun q=>Ll (HS.o b q) (HW5.o.bel.trans (hb.mono HW5.o.bel.size)).size) hm)
    clear hver
   ·have hT0:(decide (ls ≠ []) && ls.all (fW n))=false:=by
     rcases g3 with g | g
     ·rw [g];rfl
     ·rw [g,Bool.and_false]
    rw [hT0] at HTX;have HE:=Hh hE;have HT5:=Hh (HTX.o _ (Br _ _));have c6:=aA HK5.o;clear hT0 g3 hE hm FK h5 HTX g2
    go_upto_region 10 with ((with_reducible refine (HT5.o).mono ?_);rintro e w6 ⟨rfl,hb6⟩)
    have HW6:=Hh (HW5.o.step hb6);clear hb6 c6;have f6:=aD HW6.o.res;have c6:=aA HW6.o.res
    go_wp2
    refine cU (v:=.string ⟨#[]⟩) (v2:=Iz 5) HW6.o.res results11 rfl rfl rfl rfl ?_;exact sX HFD.o HD.o HE.o (by decide) rfl (HW6.o.end_ _ _ _ _ _ _)
   all_goals
    rw [show (decide (ls ≠ []) && ls.all (fW n))=true by rw [g4,An g3];rfl] at HTX
    have HT5:=Hh (HTX.o _ (Br _ _));have hin:∀l,l ∈ ls→l ∈ n.names:=fun l hl=>by
     have:=Aw.1 g4 l hl;unfold fW at this;cases hg:eL n l with
     | none=>rw [hg] at this;cases this
     | some z=>exact (FZ hm).1 (by rw [hg];rfl)
    have PU:=Hh (fun (wx:World) (hb:Below w5.heap.size w5 wx)=>JV (d:=8) _ n (.slice al ls.length cl) ls v.p v.f wx ((HN5.o.same fun b q=>hb.block b q.2).mono fun b q=>(.inl (Ll q.2 hb.size):b<wx.heap.size∨S b)) (fun b q=>q.elim id fun q=>Ll (HS.o b q) (HW5.o.bel.trans (hb.mono HW5.o.bel.size)).size) (dO 8 9 n FK.valid) ((HLS.o.same fun b q=>(HW5.o.bel.trans (hb.mono HW5.o.bel.size)).block b (HS.o b q)).mono fun b q=>.inr q) HLL.o (by decide) (vI HVV.o).f (fun _=>FK.nums) (fun a c hc hv=>HF.o v j n HFD.o HD.o a hin c hc hv) (HT.o.below (HW5.o.bel.trans (hb.mono HW5.o.bel.size))) (HDB.o.below (HW5.o.bel.trans (hb.mono HW5.o.bel.size))) (HH.o.below (HW5.o.bel.trans (hb.mono HW5.o.bel.size))) (HLy.o.go (HW5.o.bel.trans (hb.mono HW5.o.bel.size))))
    have c6:=aA HK5.o;have H5:=Hh h5;clear HTX hin h5
    go_upto_region 11 with ((with_reducible refine (HT5.o).mono ?_);rintro e w6 ⟨rfl,hb6⟩)
    have HW6:=Hh (HW5.o.step hb6);have HK6:=Hh ((hb6.block _ (Aa HK5.o)).trans HK5.o);have P6:=Hh (PU.o _ hb6);have HB6:=Hh hb6;clear hb6 c6 PU HT5;have c6:=aA HK6.o;have c5:=dM HW6.o.ver
    go_upto_region 12 with ((with_reducible refine (P6.o).mono ?_);rintro e w7 ⟨cx,rfl,hx,hb7⟩;obtain ⟨b1,m1,n1,b2,m2,n2,rfl⟩:=hx.slices)
    have b8:=(Br w7.heap.size w7).alloc (o:=.cells #[Iz (spX n ls v.p v.f).kind,.bool (spX n ls v.p v.f).bool,Iz (spX n ls v.p v.f).num,.string (spX n ls v.p v.f).text,.slice b1 m1 n1,.slice b2 m2 n2] 28) (Lr _);have hb8:=hb7.trans (b8.mono hb7.size);generalize w7.alloc _=w8 at hb8 ⊢;have HW8:=Hh (HW6.o.step hb8);have HB8:=Hh (HB6.o.trans (hb8.mono HB6.o.size));have HK8:=Hh ((hb8.block _ (Aa HK6.o)).trans HK6.o);clear hx hb7 b8 hb8 c6 c5 P6 HB6
   ·have HE:=Hh hE
    have f6:=aD HW8.o.res;have c6:=aA HW8.o.res
    by_cases h0:spE n ls v.p v.f=0
    ·have hne:spS n ls v.p v.f ≠ s:=g5.elim (fun g=>absurd h0 g) id
     rw [h0];have e1:((spS n ls v.p v.f).toList == s.toList)=false:=iD hne;have e2:((spS n ls v.p v.f).toList != s.toList)=true:=by rw [bne,e1];rfl
     clear g5 g2 g3 g4 hE h0 hne hm FK;generalize spS n ls v.p v.f=q at *
     go_wp2
     refine cU (v:=.string ⟨#[]⟩) (v2:=Iz 9) HW8.o.res results11 rfl rfl rfl rfl ?_;exact sX HFD.o HD.o HE.o (by decide) rfl (HW8.o.end_ _ _ _ _ _ _)
    ·have e0:(spE n ls v.p v.f != 0)=true:=by simp [h0]
     clear g5 g2 g3 g4 hE h0 hm FK;generalize spE n ls v.p v.f=q at *
     go_wp2
     refine cU (v:=.string ⟨#[]⟩) (v2:=Iz 9) HW8.o.res results11 rfl rfl rfl rfl ?_;exact sX HFD.o HD.o HE.o (by decide) rfl (HW8.o.end_ _ _ _ _ _ _)
   ·have HE:=Hh hE
    obtain ⟨gn1,gn2⟩:=aGn HD.o g5 g6;obtain ⟨l0,lt,hls⟩:∃l t,ls=l::t:=by cases ls with | nil=>exact absurd rfl g3 | cons a t=>exact ⟨a,t,rfl⟩
    have hg0:eL n l0=some (tN (spD n ls v.p v.f)):=gn2 l0 (by rw [hls];simp)
    have hl0:ls[0]?=some l0:=by rw [hls];rfl
    have hlen:(0:Int)<(ls.length:Int):=by rw [hls,Ag];omega
    have hlenN:0<ls.length:=by omega
    have e1:(s.toList == s.toList)=true:=beq_self_eq_true _;have e2:(s.toList != s.toList)=false:=by rw [bne,e1];rfl
    obtain ⟨bq,oq,eal,hSq,rq0⟩:=HLS.o.get hl0;subst eal;rw [Nat.add_zero] at rq0;have GE:=Hh (fun (wx:World) (hb:Below w8.heap.size w8 wx)=>zB (d:=8) _ n l0 wx (((HN5.o.same fun b q=>(HB8.o.trans (hb.mono HB8.o.size)).block b q.2).mono fun b q=>Ll q.2 (HB8.o.trans (hb.mono HB8.o.size)).size)) (fun b q=>q) H5.o hm.len (dO 8 9 n FK.valid))
    rw [hg0] at GE;have RQ:=Hh (fun (wx:World) (hb:Below w8.heap.size w8 wx)=>((HW8.o.bel.trans (hb.mono HW8.o.bel.size)).cell (p:=⟨bq,oq,none⟩) (HS.o _ hSq)).trans rq0)
    have HD0:=Hh (show ckS s ls v n 0=spD n ls v.p v.f by unfold ckS;rw [HE.o,Am rfl])
    have HX0:=Hh (show ckX s ls v n 0=n by unfold ckX;rw [HE.o,Am rfl])
    generalize hdg:spD n ls v.p v.f=dg at HD0 GE;have GE:Hid (∀wx,Below w8.heap.size w8 wx→Calls prog 30 #[.agg (Na n a1 l1 c1 a2 l2 c2),.string l0] wx fun e w'=>∃cs:Vl,e=.returned (.tuple #[.agg cs.toArray,.bool true])∧aC 9 (Fr wx.heap.size w') w' cs (tN dg)∧Below wx.heap.size wx w'):=GE
    clear g2 g3 g4 g5 g6 gn1 gn2 hls hg0 hl0 hE hm FK rq0 hSq hdg
    go_upto_region 14 with fail
    have bd:Below w8.heap.size w8 w8.drew:=(Br _ _).drew;have CK:=Hh (fun (wx:World) (hb:Below w8.heap.size w8 wx)=>Ai (aA ((hb.block _ (Aa HK8.o)).trans HK8.o)) (RQ.o wx hb))
    refine aJ (fun w'=>(w'.cell? ⟨gn,0,none⟩=some (Iz n.kind)∧w'.cell? ⟨gn,1,none⟩=some (.bool n.bool)∧w'.cell? ⟨gn,2,none⟩=some (Iz n.num)∧w'.cell? ⟨gn,3,none⟩=some (.string n.text)∧w'.cell? ⟨gn,4,none⟩=some (.slice a1 l1 c1)∧w'.cell? ⟨gn,5,none⟩=some (.slice a2 l2 c2))∧w'.cell? ⟨bq,oq,none⟩=some (.string l0)) [0,3] (.take 0 (.take 1 (.take 2 (.take 3 (eN.join true (.ask 4 false (.take 5 (.take 6 (.take 7 (.ask 8 false .stop .stop)))) (.ask 8 true (.ask 4 false (.take 5 (.take 6 (.take 7 .stop))) .stop) .stop)) (.ask 9 false (.take 10 .stop) .stop)))))) (by kernel_rfl) (by kernel_rfl) (fun _ d _ _ _ h=>by cases d <;> exact h) (CK.o _ bd) ?_
    generalize w8.drew=wd at bd ⊢;refine aN _ ?_ rfl rfl (by decide) ?_ (fun K hK=>?_);rotate_left;(intro w0 hw0;go_simp;(try rfl));(go_simp;refine hK _ ?_;clear hK K)
    iterate 2 (refine aG _ ?_ rfl rfl ?_ (fun K hK=>?_);rotate_left;(intro w0;go_simp;(try rfl));(go_simp;refine hK _ ?_;clear hK K))
    refine aN _ ?_ rfl rfl (by decide) ?_ (fun K hK=>?_);rotate_left;(intro w0 hw0;go_simp;(try rfl));(go_simp;refine hK _ ?_;clear hK K)
    refine fC [14,65,70,71,72] (fun vs wx=>∃ (gy:Nat) (a3:Option Addr) (l3 c3:Nat) (a4:Option Addr) (l4 c4:Nat),vs=[.pointer (some ⟨gy,0,none⟩),.tuple #[.agg #[Iz 3,.bool false,Iz 0,.string dg,.slice a3 l3 c3,.slice a4 l4 c4],.bool true],.tuple #[.agg #[Iz 3,.bool false,Iz 0,.string dg,.slice a3 l3 c3,.slice a4 l4 c4],.bool true],.agg #[Iz 3,.bool false,Iz 0,.string dg,.slice a3 l3 c3,.slice a4 l4 c4],.bool true]∧wx.heap[gy]?=some (.cells Z6 28 (0,0))∧w8.heap.size≤gy∧Below w8.heap.size w8 wx) ?_ ?_
    ·refine aF _ rfl ?_ ?_
     rotate_left
     ·go_wp2_with (go_at_call 30;(with_reducible refine (GE.o _ bd).mono ?_);rintro e w9 ⟨cy,rfl,hy,hb9⟩;obtain ⟨a3,l3,c3,a4,l4,c4,rfl⟩:=kB hy)
      have B9:=bd.trans (hb9.mono bd.size);refine Seg.mk ?_
      iterate 3 (refine aG _ ?_ rfl rfl ?_ (fun K hK=>?_);rotate_left;(intro w0;go_simp;(try rfl));(go_simp;refine hK _ ?_;clear hK K))
      have bz:=(Br w9.heap.size w9).alloc (o:=.cells Z6 28) (Lr _);have gz:=Hn w9 (.cells Z6 28);refine aF _ rfl trivial ?_
      go_wp2_with fail
      refine Seg.mk ?_;exact aQ [.pointer (some ⟨w9.heap.size,0,none⟩),.tuple #[.agg #[Iz 3,.bool false,Iz 0,.string dg,.slice a3 l3 c3,.slice a4 l4 c4],.bool true],.tuple #[.agg #[Iz 3,.bool false,Iz 0,.string dg,.slice a3 l3 c3,.slice a4 l4 c4],.bool true],.agg #[Iz 3,.bool false,Iz 0,.string dg,.slice a3 l3 c3,.slice a4 l4 c4],.bool true] ⟨_,a3,l3,c3,a4,l4,c4,rfl,gz,B9.size,B9.trans (bz.mono B9.size)⟩ (by simp only [gX,Act.put,As,Ay,Az])
     ·have bz:=(Br wd.heap.size wd).alloc (o:=.cells Z6 28) (Lr _)
      have gz:=Hn wd (.cells Z6 28);refine aI _ rfl trivial ?_
      go_wp2_with fail
      generalize hW:wd.alloc (.cells Z6 28)=W7 at bz gz ⊢;clear hW;have B7:=bd.trans (bz.mono bd.size);refine Seg.mk ⟨CK.o _ B7,?_⟩;refine aF _ rfl trivial ?_
      go_wp2_with (go_at_call 30;(with_reducible refine (GE.o _ B7).mono ?_);rintro e w9 ⟨cy,rfl,hy,hb9⟩;obtain ⟨a3,l3,c3,a4,l4,c4,rfl⟩:=kB hy)
      refine Seg.mk ?_
      iterate 3 (refine aG _ ?_ rfl rfl ?_ (fun K hK=>?_);rotate_left;(intro w0;go_simp;(try rfl));(go_simp;refine hK _ ?_;clear hK K))
      exact aQ [.pointer (some ⟨wd.heap.size,0,none⟩),.tuple #[.agg #[Iz 3,.bool false,Iz 0,.string dg,.slice a3 l3 c3,.slice a4 l4 c4],.bool true],.tuple #[.agg #[Iz 3,.bool false,Iz 0,.string dg,.slice a3 l3 c3,.slice a4 l4 c4],.bool true],.agg #[Iz 3,.bool false,Iz 0,.string dg,.slice a3 l3 c3,.slice a4 l4 c4],.bool true] ⟨_,a3,l3,c3,a4,l4,c4,rfl,(hb9.block _ (Aa gz)).trans gz,bd.size,B7.trans (hb9.mono B7.size)⟩ (by simp only [gX,Act.put,As,Ay,Az])
    ·rintro vs wx ⟨gy,a3,l3,c3,a4,l4,c4,rfl,gz,hgy,hbx⟩
     simp only [gX,Act.put,As,Ay,Az];have q6:=aA gz;have p6:=aD gz;have hz8:=Aa HK8.o;have hr8:=Aa HW8.o.res;have hg6:=aM wx gy (Iz 3) (.bool false) (Iz 0) (.string dg) (.slice a3 l3 c3) (.slice a4 l4 c4);have HP:=Hh (dB gz (Iz 3) (.bool false) (Iz 0) (.string dg) (.slice a3 l3 c3) (.slice a4 l4 c4));have HB6:=Hh (fE hbx (Lr _) hg6 fun b e=>by have:=Ab (show some gy=some b from e);omega)
     have HGY:=Hh hgy;clear bd gz hgy hbx hg6 GE CK RQ;refine aF _ rfl trivial ?_
     go_wp2_with fail
     refine Seg.mk ?_;refine aG _ ?_ rfl rfl ?_ (fun K hK=>?_);rotate_left;(intro w0;go_simp;(try rfl));(go_simp;refine hK _ ?_;clear hK K)
     unfold cN;simp only [dE] at HP HB6;clear q6 p6;generalize (((((wx.setCell ⟨gy,0,none⟩ (Iz 3)).setCell ⟨gy,1,none⟩ (.bool false)).setCell ⟨gy,2,none⟩ (Iz 0)).setCell ⟨gy,3,none⟩ (.string dg)).setCell ⟨gy,4,none⟩ (.slice a3 l3 c3)).setCell ⟨gy,5,none⟩ (.slice a4 l4 c4)=wy at HP HB6 ⊢
     go_upto_region 15 with fail
     have bd:Below wy.heap.size wy wy.drew:=(Br _ _).drew;have HWd:=Hh ((HW8.o.step HB6.o).step bd);have HBd:=Hh (HB6.o.trans (bd.mono HB6.o.size));have HPd:=Hh ((bd.block _ (Aa HP.o)).trans HP.o);have HKd:=Hh ((HBd.o.block _ (Aa HK8.o)).trans HK8.o);refine aJ (fun w'=>(w'.cell? ⟨gn,0,none⟩=some (Iz n.kind)∧w'.cell? ⟨gn,1,none⟩=some (.bool n.bool)∧w'.cell? ⟨gn,2,none⟩=some (Iz n.num)∧w'.cell? ⟨gn,3,none⟩=some (.string n.text)∧w'.cell? ⟨gn,4,none⟩=some (.slice a1 l1 c1)∧w'.cell? ⟨gn,5,none⟩=some (.slice a2 l2 c2))∧w'.cell? ⟨gy,3,none⟩=some (.string dg)) [0,2] (.take 0 (.take 1 (.take 2 (.ask 3 true (.ask 4 false (.take 5 .stop) .stop) .stop)))) (by kernel_rfl) (by kernel_rfl) (fun _ d _ _ _ h=>by cases d <;> exact h) ⟨aA HKd.o,(aA HPd.o).2.2.2.1⟩ ?_
     have HG:Hid (w.heap.size ≠ gy∧w.heap.size<gn):=Hh ⟨by have:=HGY.o;omega,HGN.o⟩
     generalize wy.drew=wd2 at bd HWd HBd HPd HKd ⊢;clear bd;refine aN _ ?_ rfl rfl (by decide) ?_ (fun K hK=>?_);rotate_left;(intro w0 hw0;go_simp;(try rfl));(go_simp;refine hK _ ?_;clear hK K)
     refine aG _ ?_ rfl rfl ?_ (fun K hK=>?_);rotate_left;(intro w0;go_simp;(try rfl));(go_simp;refine hK _ ?_;clear hK K)
     refine aN _ ?_ rfl rfl (by decide) ?_ (fun K hK=>?_);rotate_left;(intro w0 hw0;go_simp;(try rfl));(go_simp;refine hK _ ?_;clear hK K)
     have f6:=aD HWd.o.res;have c6:=aA HWd.o.res;have hg:=aM wd2 w.heap.size (Iz n.kind) (.bool n.bool) (Iz n.num) (.string n.text) (.slice a1 l1 c1) (.slice a2 l2 c2);have HQ:=Hh (show _∧_ from ⟨aA ((hg.block gn (Aa HKd.o) (by intro e;have:=Ab e;have:=HG.o.2;omega)).trans HKd.o),(aA ((hg.block gy (Aa HPd.o) (by intro e;exact HG.o.1 (Ab e).symm)).trans HPd.o)).2.2.2.1⟩)
     clear hg;refine aI _ rfl trivial ?_
     go_wp2
     refine Seg.mk ⟨HQ.o,?_⟩;refine aF _ rfl trivial ?_
     go_wp2_with fail
     refine Seg.mk ?_;refine aG _ ?_ rfl rfl ?_ (fun K hK=>?_);rotate_left;(intro w0;go_simp;(try rfl));(go_simp;refine hK _ ?_;clear hK K)
     unfold cN
     go_wp2
     refine cU (v:=.string dg) (v2:=Iz 0) HWd.o.res results11 rfl rfl rfl rfl ?_;have hg:=aM wd2 w.heap.size (Iz n.kind) (.bool n.bool) (Iz n.num) (.string n.text) (.slice a1 l1 c1) (.slice a2 l2 c2);have hb58:=HB8.o.trans (HBd.o.mono HB8.o.size);refine .inr ⟨v,j,n,0,(Nc n a1 l1 c1 a2 l2 c2),HFD.o,HD.o,by rw [HD0.o,HE.o],?_,HWd.o.end_ _ _ _ _ _ _⟩
     rw [HX0.o];exact ((HN5.o.same fun b q=>hb58.block b q.2).same fun b q=>hg.block b (Ll q.2 hb58.size) (by intro e;have:=Ab e;have:=q.1;omega)).mono fun b q=>⟨by have:=q.1;omega,Ll (Ll q.2 hb58.size) hg.size⟩
  ·have HE:Hid (∀n e0,ckE s ls v n e0=8):=Hh fun n e0=>by unfold ckE;rw [Am hz]
   have n1:(v.z != (s.size:Int))=true:=by simp [hz]
   obtain ⟨n,e0,hd⟩:=aCh v.f s;have HD:=Hh hd;have f6:=aD HW3.o.res;have c6:=aA HW3.o.res;clear hz hd
   go_wp2
   refine cU (v:=.string ⟨#[]⟩) (v2:=Iz 8) HW3.o.res results11 rfl rfl rfl rfl ?_;exact sX HFD.o HD.o (HE.o n e0) (by decide) rfl (HW3.o.end_ _ _ _ _ _ _)
end Go.Proofs.YtncdpanfefnjlaaGreatDoor