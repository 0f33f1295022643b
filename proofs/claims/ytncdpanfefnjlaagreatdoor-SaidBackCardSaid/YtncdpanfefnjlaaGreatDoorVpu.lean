import Derived.Test.YtncdpanfefnjlaaGreatDoorVgt
set_option linter.unusedVariables false
set_option linter.unusedSimpArgs false
set_option maxHeartbeats 3200000
set_option maxRecDepth 100000
namespace Go.Proofs.YtncdpanfefnjlaaGreatDoor
open Go.Proofs.Tryz
open Go Go.ChangeShapes Go.WideShapes Go.ChangeAt Go.RowKit
theorem OY {b b':Nat} {w:World} {e:TypeId} {size n:Nat} {v:Value} {xs:Vl} (h:w.ownsRow b e size v n xs) (hb:b'≤b):w.ownsRow b' e size v n xs:=by
 obtain ⟨h1,h2 | ⟨g,cap,cur,hv,hg,r⟩⟩:=h
 ·exact ⟨h1,.inl h2⟩
 ·exact ⟨h1,.inr ⟨g,cap,cur,hv,by omega,r⟩⟩
theorem aBd {d:Nat} {S S':Nat→Prop} {w w':World} {cs:Vl} {t:Bt} (h:aC d S w cs (tN t)):aC d S' w' cs (tN t):=by
 cases d with
 | zero=>exact h
 | succ d=>
  obtain ⟨vn,vi,e,ht,⟨a,c,e1,h1,h2,-⟩,⟨a',c',e2,h3,h4,-⟩⟩:=h;exact ⟨vn,vi,e,ht,⟨a,c,e1,h1,h2,fun j s hj=>by simp [tN,ND.names] at hj⟩,⟨a',c',e2,h3,h4,fun j s hj=>by simp [tN,ND.items] at hj⟩⟩
structure PuS (TN:TypeId) (d B:Nat) (w wr:World) (gx:Nat) (vt:Array Value) (vn:Value) (ai:Option Addr) (ci:Nat) (ns:List Bt) (A:List NC):Prop where
 val:wr.heap[w.heap.size+1]?=some (.cells vt TN (0,0))
 res:wr.heap[w.heap.size+2]?=some (.cells Z6 TN (0,0))
 nod:wr.heap[gx]?=some (.cells #[Iz 5,.bool false,Iz 0,.string ⟨#[]⟩,vn,.slice ai A.length ci] TN (0,0))
 lo:w.heap.size+3≤B∧B≤gx∧(Value.slice ai A.length ci).ownBlock ≠ some gx
 names:bE (fun b=>w.heap.size+3≤b∧b<B) wr vn ns
 row:wr.ownsRow B TN 6 (.slice ai A.length ci) A.length (cF A)
 old:∀y,y ∈ A→aC d (fun b=>B≤b∧b<wr.heap.size∧(Value.slice ai A.length ci).ownBlock ≠ some b∧b ≠ gx) wr y.1 y.2
 bel:Below w.heap.size w wr
section
variable {TN:TypeId} {d B gx ci:Nat} {w wr wn:World} {vt:Array Value} {vn:Value} {ai:Option Addr} {ns:List Bt} {A:List NC}
theorem PuS.below (h:PuS TN d B w wr gx vt vn ai ci ns A) (hb:Below wr.heap.size wr wn):PuS TN d B w wn gx vt vn ai ci ns A:=by
 have hk:∀ {b:Nat} {o:Obj},wr.heap[b]?=some o→wn.heap[b]?=some o:=fun h=>(hb.block _ (Aa h)).trans h
 have hlo:=h.lo;have hgx:=Aa h.nod;exact ⟨hk h.val,hk h.res,hk h.nod,h.lo,h.names.same fun b q=>hb.block b (by have:=q.2;omega),fG h.row hb,fun y hy=>((h.old y hy).same fun b q=>hb.block b q.2.1).mono fun b q=>⟨q.1,Ll q.2.1 hb.size,q.2.2⟩,h.bel.trans (hb.mono h.bel.size)⟩
theorem PuS.set {g i:Nat} {a b c dd e f:Value} {y:ND} (h:PuS TN d B w wr gx vt vn (some ⟨g,0,none⟩) ci ns A) (hi:i<A.length) (hy:∀S w',aC d S w' [a,b,c,dd,e,f] y) :
 PuS TN d B w ((((((wr.setCell ⟨g,i * 6,none⟩ a).setCell ⟨g,i * 6+1,none⟩ b).setCell ⟨g,i * 6+2,none⟩ c).setCell ⟨g,i * 6+3,none⟩ dd).setCell ⟨g,i * 6+4,none⟩ e).setCell ⟨g,i * 6+5,none⟩ f) gx vt vn (some ⟨g,0,none⟩) ci ns (A.set i ([a,b,c,dd,e,f],y)):=by
 have hg:=yC wr g (i * 6) a b c dd e f;have hrow:=JZ h.row i a b c dd e f;have h6:∀y,y ∈ A→y.1.length=6:=fun y hy=>(h.old y hy).len
 rw [qT A i a b c dd e f y h6 hi] at hrow;have hlo:=h.lo;have hgl:=(h.row.lt g rfl);have hgne:g ≠ gx:=fun e=>h.lo.2.2 (by rw [e];rfl)
 have hgx:=Aa h.nod;have hk:∀ {b:Nat} {o:Obj},b ≠ g→wr.heap[b]?=some o→_:=fun {b o} hb hh=>(hg.block b (Aa hh) (by intro e;exact hb (Ab e))).trans hh
 have hL:(A.set i ([a,b,c,dd,e,f],y)).length=A.length:=List.length_set;refine ⟨hk (by omega) h.val,hk (by omega) h.res,by rw [hL];exact hk (fun e=>hgne e.symm) h.nod,by rw [hL];exact h.lo,h.names.same fun b q=>hg.block b (by have:=q.2;omega) (by intro e;have:=Ab e;have:=q.2;omega),by rw [hL];exact hrow,?_,?_⟩
 ·intro z hz
  rw [hL];rcases List.mem_or_eq_of_mem_set hz with hz | rfl
  ·exact ((h.old z hz).same fun b q=>hg.block b q.2.1 (by intro e;have:=Ab e;exact q.2.2.1 (by rw [this];rfl))).mono fun b q=>⟨q.1,Ll q.2.1 hg.size,q.2.2⟩
  ·exact hy _ _
 ·have hb:=h.bel
  exact hb.grown hg hb.size fun k hk=>by have:=Ab hk;omega
theorem PuS.node (h:PuS TN d B w wr gx vt vn ai ci ns A):aC (d+1) (fun b=>w.heap.size+3≤b∧b<wr.heap.size) wr [Iz 5,.bool false,Iz 0,.string ⟨#[]⟩,vn,.slice ai A.length ci] (.mk 5 false 0 ⟨#[]⟩ ns (aE A)):=by
 have hlo:=h.lo;have hgx:=Aa h.nod;have h6:∀y,y ∈ A→y.1.length=6:=fun y hy=>(h.old y hy).len
 have h1:=h.row;refine ⟨_,_,rfl,Ax _,h.names.mono fun b q=>⟨q.1,by have:=q.2;omega⟩,?_⟩
 have hl:(aE A).length=A.length:=by simp [aE]
 rcases h1.2 with ⟨e,hA0⟩ | ⟨g,cap,cur,e,hbg,hg,hnc,hcm,hcs,hcu⟩
 ·have hn:A=[]:=Au.1 hA0
  subst hn;rw [e];exact cB.nil _ _ _
 ·cases e
  refine ⟨_,ci,by rw [show (ND.mk 5 false 0 ⟨#[]⟩ ns (aE A)).items=aE A from rfl,hl],by rw [show (ND.mk 5 false 0 ⟨#[]⟩ ns (aE A)).items=aE A from rfl,hl];exact hnc,hcm,fun j x hj=>?_⟩
  have hj2:(aE A)[j]?=some x:=hj;have hj':j<A.length:=by have:=dH hj2;omega
  have e:A[j]?=some (A[j].1,A[j].2):=by rw [Ac hj']
  have hx:x=A[j].2:=by
   rw [aE,Bc,e] at hj2;exact (Ab hj2).symm
  subst hx;refine ⟨g,0,A[j].1,rfl,⟨by omega,Aa hg⟩,fun f u hu=>?_,(h.old _ (Do hj')).mono fun b q=>⟨by have:=q.1;omega,q.2.1⟩⟩
  have:=h1.cells (g:=g) rfl _ _ (jL h6 e f u hu);rw [Bn,←Nat.add_assoc] at this;exact this
end
theorem kB {d:Nat} {S:Nat→Prop} {w:World} {cs:Vl} {t:Bt} (h:aC d S w cs (tN t)):∃a1 l1 c1 a2 l2 c2,cs=[Iz 3,.bool false,Iz 0,.string t,.slice a1 l1 c1,.slice a2 l2 c2]:=h.slices
theorem aFr {TN:TypeId} {d:Nat} {w w':World} {x:ND} {e:Ending} (hx:cH 7 x) (h:tF TN d w x e w'):∃ (B:Nat) (vn:Value) (ai:Option Addr) (ci:Nat) (A:List NC),e=.returned (.agg #[Iz 5,.bool false,Iz 0,.string ⟨#[]⟩,vn,.slice ai A.length ci])∧w.heap.size+2≤B∧bE (fun b=>Fr (w.heap.size+2) w' b∧b<B) w' vn x.names∧gS TN d B none w' (.slice ai A.length ci) A∧aE A=x.items∧Below w.heap.size w w':=by
 obtain ⟨B,vn,ai,ci,A,e,hB,ht,hn,hr,hp,hA,hb⟩:=h;rw [hx.kind,hx.bool,hx.num,hx.text] at e;exact ⟨B,vn,ai,ci,A,e,hB,hn,hr,hA,hb⟩
def aHc (d:Nat) (w:World) (y:ND) (e:Ending) (w':World):Prop:=∃vn vi:Value,e=.returned (.tuple #[.agg #[Iz 5,.bool false,Iz 0,.string ⟨#[]⟩,vn,vi],Iz 0])∧aC d (fun b=>w.heap.size≤b∧b<w'.heap.size) w' [Iz 5,.bool false,Iz 0,.string ⟨#[]⟩,vn,vi] y∧Below w.heap.size w w'
def aIx (d:Nat) (w:World) (y:ND) (e:Ending) (w':World):Prop:=(aB 8 y=true∧aHc d w y e w')∨(aB 8 y=false∧e=.returned (.tuple #[.agg Z6,Iz 1])∧Below w.heap.size w w')
theorem aFt {d i:Nat} {x:ND} {t:Bt} (h:jG (d+1) x):jG (d+1) (.mk 5 false 0 ⟨#[]⟩ x.names (x.items.set i (tN t))):=by
 refine ⟨h.1,by show (x.items.set i (tN t)).length≤_;rw [List.length_set];exact h.2.1,fun y hy=>?_⟩
 rcases List.mem_or_eq_of_mem_set (show y ∈ x.items.set i (tN t) from hy) with hy | rfl
 ·exact h.2.2 y hy
 ·exact sM t
theorem aFk {d i:Nat} {S:Nat→Prop} (cs:Vl) (x:ND) (s t:Bt) (w:World) (h:aC (d+1) S w cs x) (hS:∀b,S b→b<w.heap.size) (hx:cH 7 x) (h0:x.names[i]?=some s) (hd:1≤d) (ht:t.size≤100) (hT:kI w) :
 Calls prog 14 #[.agg cs.toArray,.string s,.agg #[Iz 3,.bool false,Iz 0,.string t,Sn,Sn]] w (aIx (d+1) w (.mk 5 false 0 ⟨#[]⟩ x.names (x.items.set i (tN t)))):=by
 obtain ⟨a1,l1,c1,a2,l2,c2,rfl⟩:=h.slices;have hxv:aB 8 x=true:=(bY hx.kind).2 hx;rw [hx.kind,hx.bool,hx.num,hx.text] at h;rw [hx.kind,hx.bool,hx.num,hx.text];obtain ⟨w1,hw1⟩:∃W,W=((w.alloc (.cells #[Iz 5,.bool false,Iz 0,.string ⟨#[]⟩,.slice a1 l1 c1,.slice a2 l2 c2] 28)).alloc (.cells #[Iz 3,.bool false,Iz 0,.string t,Sn,Sn] 28)).alloc (.cells Z6 28):=⟨_,rfl⟩;have z1:(w.alloc (.cells #[Iz 5,.bool false,Iz 0,.string ⟨#[]⟩,.slice a1 l1 c1,.slice a2 l2 c2] 28)).heap.size=w.heap.size+1:=by simp
 have z2:((w.alloc (.cells #[Iz 5,.bool false,Iz 0,.string ⟨#[]⟩,.slice a1 l1 c1,.slice a2 l2 c2] 28)).alloc (.cells #[Iz 3,.bool false,Iz 0,.string t,Sn,Sn] 28)).heap.size=w.heap.size+2:=by simp
 have b1:Below w.heap.size w w1:=by rw [hw1];exact (((Br _ _).alloc (Lr _) _).alloc (by simp) _).alloc (by simp;omega) _
 have k0:w1.heap[w.heap.size]?=some (.cells #[Iz 5,.bool false,Iz 0,.string ⟨#[]⟩,.slice a1 l1 c1,.slice a2 l2 c2] 28 (0,0)):=by rw [hw1];exact (Bh _ _ _ (by omega)).trans ((Bh _ _ _ (by omega)).trans (Hn _ _))
 have k1:w1.heap[w.heap.size+1]?=some (.cells #[Iz 3,.bool false,Iz 0,.string t,Sn,Sn] 28 (0,0)):=by
  have:=Hn (w.alloc (.cells #[Iz 5,.bool false,Iz 0,.string ⟨#[]⟩,.slice a1 l1 c1,.slice a2 l2 c2] 28)) (.cells #[Iz 3,.bool false,Iz 0,.string t,Sn,Sn] 28);rw [z1] at this;rw [hw1];exact (Bh _ _ _ (by omega)).trans this
 have k2:w1.heap[w.heap.size+2]?=some (.cells Z6 28 (0,0)):=by
  have:=Hn ((w.alloc (.cells #[Iz 5,.bool false,Iz 0,.string ⟨#[]⟩,.slice a1 l1 c1,.slice a2 l2 c2] 28)).alloc (.cells #[Iz 3,.bool false,Iz 0,.string t,Sn,Sn] 28)) (.cells Z6 28);rw [z2] at this;rw [hw1];exact this
 have z3:w1.heap.size=w.heap.size+3:=by rw [hw1];simp
 have low:=dO 8 (d+1) x hxv;have hold:∀wx,Below w.heap.size w wx→aC (d+1) S wx [Iz 5,.bool false,Iz 0,.string ⟨#[]⟩,.slice a1 l1 c1,.slice a2 l2 c2] x:=fun wx hb=>h.same fun b q=>hb.block b (hS b q)
 have V1:=Hh (rY _ x w1 (hold w1 b1) (fun b q=>Ll (hS b q) b1.size) (fT low) (hT.below b1))
 rw [hxv] at V1;have CX:=Hh (fun (wx:World) (hb:Below w.heap.size w wx)=>OL d S _ x wx (hold wx hb) (fun b q=>Ll (hS b q) hb.size) low |>.mono fun e w' q=>aFr hx q)
 have CT:=Hh (fun (wx:World)=>pF d (fun _=>False) [Iz 3,.bool false,Iz 0,.string t,Sn,Sn] (tN t) wx ((cC _ wx 3 false 0 t (by unfold maxLen;omega)).deeper hd) (fun b q=>q.elim) (sM t))
 have K1:=Hh k1;have K2:=Hh k2;have B1:=Hh b1;have Z3:=Hh z3;have HX:=Hh hx;have HT:=Hh hT;have H0:=Hh h0;have LOW:=Hh low;have cb:=aA k0;have K0:=Hh k0;clear h hS hx hxv h0 hT b1 k0 k1 k2 z1 z2 z3 low hold
 go_enter func14,ntmps14
 go_upto_region 1 with fail
 rw [←hw1];clear hw1
 go_upto_region 3 with ((with_reducible refine (V1.o).mono ?_);rintro e w2 ⟨rfl,hb2⟩;(have cb2:=aA ((hb2.block _ (Aa K0.o)).trans K0.o)))
 have B2:=Hh (B1.o.trans (hb2.mono B1.o.size));have HB2:=Hh hb2;clear cb V1 hb2
 go_upto_region 4 with ((with_reducible refine (CX.o _ B2.o).mono ?_);rintro e w3 ⟨B,vn,ai,ci,A,rfl,hB,hns,hrow,hA,hb3⟩;obtain ⟨a3,c3,rfl,-⟩:=id hns)
 have hns':bE (fun b=>Fr (w2.heap.size+2) w3 b∧b<B) w3 (.slice a3 x.names.length c3) x.names:=hns
 clear hns;have b4:=(Br w3.heap.size w3).alloc (o:=.cells #[Iz 5,.bool false,Iz 0,.string ⟨#[]⟩,.slice a3 x.names.length c3,.slice ai A.length ci] 28) (Lr _);have k4:=Hn w3 (.cells #[Iz 5,.bool false,Iz 0,.string ⟨#[]⟩,.slice a3 x.names.length c3,.slice ai A.length ci] 28);have HP:Hid (PuS 28 d (min B w3.heap.size) w (w3.alloc (.cells #[Iz 5,.bool false,Iz 0,.string ⟨#[]⟩,.slice a3 x.names.length c3,.slice ai A.length ci] 28)) w3.heap.size #[Iz 3,.bool false,Iz 0,.string t,Sn,Sn] (.slice a3 x.names.length c3) ai ci x.names A):=by
  have hz:=Z3.o;have s2:=HB2.o.size;have s3:=hb3.size;have hk:∀ {b:Nat} {o:Obj},w1.heap[b]?=some o→(w3.alloc (.cells #[Iz 5,.bool false,Iz 0,.string ⟨#[]⟩,.slice a3 x.names.length c3,.slice ai A.length ci] 28)).heap[b]?=some o:=fun {b o} hh=>(b4.block _ (by have:=Aa hh;omega)).trans ((hb3.block _ (by have:=Aa hh;omega)).trans ((HB2.o.block _ (Aa hh)).trans hh))
  have hmin:min B w3.heap.size≤B:=Nat.min_le_left _ _;have hmin2:min B w3.heap.size≤w3.heap.size:=Nat.min_le_right _ _;refine Hh ⟨hk K1.o,hk K2.o,k4,⟨Nat.le_min.2 ⟨by omega,by omega⟩,hmin2,fun e=>by have:=(hrow.1.lt _ e).2;omega⟩,(hns'.same fun b q=>b4.block b q.1.2.1).mono fun b q=>⟨by have:=q.1.1;omega,Nat.lt_min.2 ⟨q.2,q.1.2.1⟩⟩,OY (fG hrow.1 b4) hmin,fun y hy=>((hrow.2.2 y hy).same fun b q=>b4.block b q.2.1).mono fun b q=>⟨Ae hmin q.1,Ll q.2.1 b4.size,q.2.2.1,by have:=q.2.1;omega⟩,B2.o.trans ((hb3.trans (b4.mono hb3.size)).mono B2.o.size)⟩
 have HA:=Hh hA;clear cb2 CX hB hns' hrow hb3 hA b4 k4 HB2;generalize min B w3.heap.size=Bx at HP;generalize w3.alloc _=w4 at HP ⊢;generalize w3.heap.size=gx at HP ⊢;have cn:=aA HP.o.nod;have hln:=LOW.o.1
 go_upto_region 6 with fail
 clear cn
 go_loopw [9,26] (fun fo iv wr=>∃ (j:Nat) (A':List NC),iv=Iz j∧j≤x.names.length∧PuS 28 d Bx w wr gx #[Iz 3,.bool false,Iz 0,.string t,Sn,Sn] (.slice a3 x.names.length c3) ai ci x.names A'∧A'.length=A.length∧((j≤i∧fo=.bool false∧aE A'=x.items)∨(i<j∧fo=.bool true∧aE A'=x.items.set i (tN t)))) (fun _ i _=>x.names.length - (intOf i).toNat)
 case atStart=>exact ⟨0,A,rfl,Ax _,HP.o,rfl,.inl ⟨Ax _,rfl,HA.o⟩⟩
 case round=>
  clear HP;obtain ⟨j,A',rfl,hj,hst,hlA,hcase⟩:=hrel;have HST:=Hh hst;have HLA:=Hh hlA;clear hst hlA
  by_cases hlt:j<x.names.length
  ·have hlt':(j:Int)<(x.names.length:Int):=by omega
   have hj0:(0:Int)≤(j:Int):=by omega
   have hjm:(x.names.length:Int)≤1000000:=by omega
   have HLT:=Hh hlt;obtain ⟨r,hsn⟩:∃r,x.names[j]?=some r:=⟨_,Ac hlt⟩;obtain ⟨bq,oq,rfl,hSq,rq⟩:=HST.o.names.get hsn;have HSN:=Hh hsn;have cn:=aA HST.o.nod;have ct:=aA HST.o.val;clear hsn hSq;rcases hcase with ⟨hz,rfl,hit⟩ | ⟨hz,rfl,hit⟩
   ·rcases Cc j i with hji | hji
    ·have hrs:r ≠ s:=fun e=>by
      have h1:=HSN.o;rw [e] at h1;have h2:=(List.getElem?_inj (by omega) HX.o.nodup).1 (h1.trans H0.o.symm)
      omega
     have e1:(r.toList == s.toList)=false:=iD hrs;have HIT:=Hh hit;have HJI:=Hh hji;clear hrs hit hz hji
     go_wp2
     go_roundw
     case rel=>exact ⟨j+1,A',by go_num,by have:=HLT.o;omega,HST.o,HLA.o,.inl ⟨HJI.o,rfl,HIT.o⟩⟩
     case measure=>have:=HLT.o;simp [intOf];omega
    have hz:j=i:=by omega
    have hrs:r=s:=by have h1:=HSN.o;rw [hz,H0.o] at h1;exact (Ab h1).symm
    have e1:(r.toList == s.toList)=true:=lV hrs;have HZ:=Hh hz;have HIT:=Hh hit;have hAl:j<A'.length:=by
     have h1:=Ad List.length hit;rw [aE,Bi] at h1;have:=HX.o.len;omega
    clear hrs hz hit hji;obtain ⟨g,rfl⟩:∃g,ai=some ⟨g,0,none⟩:=by
     rcases HST.o.row.2 with ⟨e,h0⟩ | ⟨g,cap,cur,e,_⟩
     ·omega
     ·cases e;exact ⟨g,rfl⟩
    have hAi:(j:Int)<(A'.length:Int):=by omega
    have HAL:=Hh hAl;clear hAl
    go_upto_region 9 with fail
    clear rq;have bd:Below wr.heap.size wr wr.drew:=(Br _ _).drew;have CK:=Hh (fun (wx:World) (hb:Below wr.heap.size wr wx)=>Ai (aA ((hb.block _ (Aa HST.o.nod)).trans HST.o.nod)).2.2.2.2.2 (aA ((hb.block _ (Aa HST.o.val)).trans HST.o.val)))
    refine aJ (fun w'=>w'.cell? ⟨gx,5,none⟩=some (.slice (some ⟨g,0,none⟩) A'.length ci)∧(w'.cell? ⟨w.heap.size+1,0,none⟩=some (Iz 3)∧w'.cell? ⟨w.heap.size+1,1,none⟩=some (.bool false)∧w'.cell? ⟨w.heap.size+1,2,none⟩=some (Iz 0)∧w'.cell? ⟨w.heap.size+1,3,none⟩=some (.string t)∧w'.cell? ⟨w.heap.size+1,4,none⟩=some (Sn)∧w'.cell? ⟨w.heap.size+1,5,none⟩=some (Sn))) [1,3] (.take 0 (.take 1 (.take 2 (.take 3 (.ask 4 true (.ask 5 false (.ask 6 false (.ask 7 false .stop .stop) .stop) .stop) .stop))))) (by kernel_rfl) (by kernel_rfl) (fun _ d _ _ _ h=>by cases d <;> exact h) (CK.o _ bd) ?_
    have HPD:=Hh (HST.o.below bd);generalize wr.drew=wd at bd HPD ⊢;clear cn ct;refine aG _ ?_ rfl rfl ?_ (fun K hK=>?_);rotate_left;(intro w0;go_simp;(try rfl));(go_simp;refine hK _ ?_;clear hK K)
    refine aN _ ?_ rfl rfl (by decide) ?_ (fun K hK=>?_);rotate_left;(intro w0 hw0;go_simp;(try rfl));(go_simp;refine hK _ ?_;clear hK K)
    refine aG _ ?_ rfl rfl ?_ (fun K hK=>?_);rotate_left;(intro w0;go_simp;(try rfl));(go_simp;refine hK _ ?_;clear hK K)
    refine aN _ ?_ rfl rfl (by decide) ?_ (fun K hK=>?_);rotate_left;(intro w0 hw0;go_simp;(try rfl));(go_simp;refine hK _ ?_;clear hK K)
    refine aI _ rfl trivial ?_
    go_wp2_with (go_at_call 31;(with_reducible refine (CT.o _).mono ?_);rintro e w7 ⟨cy,rfl,hn7,hb7⟩;obtain ⟨b1,m1,n1,b2,m2,n2,rfl⟩:=kB hn7)
    have HP7:=Hh (HPD.o.below hb7);refine Seg.mk ⟨CK.o _ (bd.trans (hb7.mono bd.size)),?_⟩;have HN7:=Hh hn7;clear hb7 bd HPD hn7;refine aF _ rfl trivial ?_
    go_wp2
    refine Seg.mk ?_;have hq:∀q,q<6→∃u,w7.cell? ⟨g,j * 6+q,none⟩=some u:=fun q hq=>by
     have:=HAL.o;rw [HP7.o.row.cellAt (j * 6+q) (by omega),Ac (by rw [iB A' fun y hy=>(HP7.o.old y hy).len];omega)]
     exact ⟨_,rfl⟩
    obtain ⟨u0,q0⟩:=hq 0 (by decide)
    obtain ⟨u1,q1⟩:=hq 1 (by decide)
    obtain ⟨u2,q2⟩:=hq 2 (by decide)
    obtain ⟨u3,q3⟩:=hq 3 (by decide)
    obtain ⟨u4,q4⟩:=hq 4 (by decide)
    obtain ⟨u5,q5⟩:=hq 5 (by decide)
    rw [Nat.add_zero] at q0;have fr0:=HP7.o.row.frozenAt (j * 6);have fr1:=HP7.o.row.frozenAt (j * 6+1);have fr2:=HP7.o.row.frozenAt (j * 6+2);have fr3:=HP7.o.row.frozenAt (j * 6+3);have fr4:=HP7.o.row.frozenAt (j * 6+4);have fr5:=HP7.o.row.frozenAt (j * 6+5);have HP8:=Hh (HP7.o.set HAL.o (fun S w'=>(aBd (HN7.o))))
    clear hq HP7;refine aF _ rfl trivial ?_
    go_wp2
    clear q0 q1 q2 q3 q4 q5 fr0 fr1 fr2 fr3 fr4 fr5;refine Seg.mk ?_;refine cG _ rfl trivial ?_
    go_wp2
    go_roundw
    case rel=>exact ⟨j+1,_,by go_num,by have:=HLT.o;omega,HP8.o,by rw [List.length_set];exact HLA.o,.inr ⟨by have:=HZ.o;omega,rfl,by rw [vS,HIT.o,HZ.o]⟩⟩
    case measure=>have:=HLT.o;simp [intOf];omega
   ·have hrs:r ≠ s:=fun e=>by
     have h1:=HSN.o;rw [e] at h1;have h2:=(List.getElem?_inj (by omega) HX.o.nodup).1 (h1.trans H0.o.symm)
     omega
    have e1:(r.toList == s.toList)=false:=iD hrs;have HIT:=Hh hit;clear hrs hit
    go_wp2
    go_roundw
    case rel=>exact ⟨j+1,A',by go_num,by have:=HLT.o;omega,HST.o,HLA.o,.inr ⟨by omega,rfl,HIT.o⟩⟩
    case measure=>have:=HLT.o;simp [intOf];omega
  ·have hlt':¬ (j:Int)<(x.names.length:Int):=by omega
   rcases hcase with ⟨hz,rfl,hit⟩ | ⟨hz,rfl,hit⟩
   ·have:=dH H0.o
    omega
   ·have hnode:=HST.o.node
    have V9:=Hh (rY _ _ wr hnode (fun b q=>q.2) (fT (by rw [hit];exact aFt LOW.o)) (HT.o.below HST.o.bel))
    rw [hit] at V9;have HIT:=Hh hit;have cn:=aA HST.o.nod;obtain ⟨Li,hLi⟩:∃n,n=A'.length:=⟨_,rfl⟩;have HLI:=Hh hLi;have hst:=HST.o;rw [←hLi] at V9 cn;clear hit hnode hst hLi;have hres:wr.heap[w.heap.size+1+1]?=some (.cells Z6 28 (0,0)):=HST.o.res;obtain ⟨gr,hgz⟩:∃g,g=w.heap.size+1+1:=⟨_,rfl⟩;rw [←hgz] at hres;rw [←hgz];have HRS:=Hh hres;have HGZ:=Hh hgz;clear hres hgz;cases hyv:aB 8 (.mk 5 false 0 ⟨#[]⟩ x.names (x.items.set i (tN t))) with
    | true=>
     have HYV:=Hh hyv;rw [hyv] at V9;clear hyv
     go_upto_region 15 with ((with_reducible refine (V9.o).mono ?_);rintro e w9 ⟨rfl,hb9⟩;(have hr9:=(hb9.block _ (Aa HRS.o)).trans HRS.o);(have f9:=aD hr9);(have c9:=aA hr9);(have k9:=(hb9.block _ (Aa HST.o.nod)).trans HST.o.nod);(rw [←HLI.o] at k9);(have d9:=aA k9);clear k9)
     have HR9:=Hh hr9;have HP9:=Hh (HST.o.below hb9);clear V9 cn hb9 hr9
     go_wp2
     refine aP (v:=Iz 0) HR9.o results14 rfl rfl rfl ?_;have hgz:=HGZ.o;have hb:=HP9.o.bel;have hN:=HP9.o.node;rw [HIT.o] at hN;rw [HLI.o];exact .inl ⟨HYV.o,_,_,rfl,(hN.same fun b q=>(aM w9 gr _ _ _ _ _ _).block b q.2 (by intro e;have:=Ab e;have:=q.1;omega)).mono fun b q=>⟨by have:=q.1;omega,Ll q.2 (aM w9 gr _ _ _ _ _ _).size⟩,hb.grown (aM w9 gr _ _ _ _ _ _) hb.size fun k hk=>by have:=Ab (show some gr=some k from hk);omega⟩
    | false=>
     have HYV:=Hh hyv;rw [hyv] at V9;clear hyv
     go_upto_region 14 with ((with_reducible refine (V9.o).mono ?_);rintro e w9 ⟨rfl,hb9⟩)
     have hr9:=(hb9.block _ (Aa HRS.o)).trans HRS.o;have f9:=aD hr9;have c9:=aA hr9;have HR9:=Hh hr9;have HP9:=Hh (HST.o.below hb9);clear V9 cn hb9 hr9
     go_wp2
     refine aP (v:=Iz 1) HR9.o results14 rfl rfl rfl ?_;have hgz:=HGZ.o;have hb:=HP9.o.bel;exact .inr ⟨HYV.o,rfl,hb.grown (aM w9 gr _ _ _ _ _ _) hb.size fun k hk=>by have:=Ab (show some gr=some k from hk);omega⟩
end Go.Proofs.YtncdpanfefnjlaaGreatDoor