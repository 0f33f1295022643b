import Derived.Test.YtncdpanfefnjlaaGreatDoorNnam
set_option linter.unusedVariables false
set_option linter.unusedSimpArgs false
set_option maxRecDepth 100000
set_option maxHeartbeats 3200000
namespace Go.Proofs.YtncdpanfefnjlaaGreatDoor
open Go.Proofs.Tryz
open Go Go.ChangeShapes Go.WideShapes Go.ChangeAt Go.RowKit
def jG:Nat→ND→Prop
 | 0,_=>True
 | d+1,x=>x.names.length≤1000000∧x.items.length≤1000000∧∀y,y ∈ x.items→jG d y
theorem dO:∀ (d e:Nat) (x:ND),aB d x=true→jG e x
 | _,0,_,_=>trivial
 | 0,e+1,_,h=>by cases h
 | d+1,e+1,x,h=>by
  rw [cQ,Ak,Aw] at h;obtain ⟨hf,hv⟩:=h;unfold eQ at hf;simp only [Ak,Dw,Av] at hf;obtain ⟨⟨⟨⟨⟨⟨⟨⟨⟨⟨⟨-,-⟩,-⟩,-⟩,-⟩,-⟩,h1⟩,-⟩,h2⟩,h3⟩,-⟩,-⟩:=hf;refine ⟨?_,by omega,fun y hy=>dO d e y (hv y hy)⟩
  rcases h1 with h1 | h1
  ·omega
  ·rcases h3 with h3 | h3
   ·exact absurd h1 h3
   ·omega
theorem wL {P:Program} {S:Nat→Prop} (w:World) {t ty e:TypeId} {i:TypeInfo} {v:Value} {ns:List Bt} (ht:P.underlying t=some (.slice e)) (hi:P.info? e=some i) (hz:i.zero=some (.string ⟨#[]⟩)) (hs:i.size=1) (hb:i.bytes=16) (h:bE S w v ns) (hl:ns.length≤1000000) :
 ∃v' w',(Builtin.append_ #[t,t] ty #[Sn,v]).run P w=.ok v' w'∧w'.ownsRow w.heap.size e 1 v' ns.length (ns.map Value.string)∧w.grownBy w' none:=by
 obtain ⟨ao,cap,rfl,h1,h2,h3⟩:=h;have hnil:=Dr w w.heap.size e 1;cases ao with
 | none=>
  have:ns=[]:=by
   cases ns with
   | nil=>rfl
   | cons s t=>obtain ⟨_,_,h,_⟩:=h3 0 s rfl;cases h
  subst this;exact ⟨Sn,w,by simp [Builtin.append_,run_underlying ht,sizeOf,typeInfo,hi,Builtin.lenOf,Builtin.firstCells,loadCells,loadCellsFrom],hnil,World.grownBy.refl _ _⟩
 | some a=>
  obtain ⟨v',w',hr,g1,g2,_⟩:=run_append_own_at (P:=P) w w.heap.size t ty e i (.string ⟨#[]⟩) 1 16 ht hi hz hs hb rfl (by decide) (Sn) 0 [] hnil a ns.length cap (ns.map Value.string) (by simp) (fun j u hu=>by
   rw [Bc] at hu;cases hj:ns[j]? with
   | none=>rw [hj] at hu;cases hu
   | some s=>
    rw [hj] at hu;obtain rfl:Value.string s=u:=by simpa using hu
    obtain ⟨b,off,e',_,hc,_⟩:=h3 j s hj;cases e';rw [Bn];exact hc) (by intro u hu;obtain ⟨s,_,rfl⟩:=Bl.1 hu;rfl) (by unfold maxLen;omega) (by omega) (Lr _)
  exact ⟨v',w',hr,by simpa using g1,g2⟩
theorem lE {P:Program} {S:Nat→Prop} (w:World) {ops:Array Oper} {rest:List Oper} {o:Oper} {a:Act} {Q:Exit→Act→World→Prop} (hgd:Region.wanted o (yielded ops a.tmps)=true) (s x:Operand) (t:TypeId)
 (ho:o.op=.call { callee:=.builtin .append,args:=#[s,x],argTypes:=#[t,t] }) (e:TypeId) (i:TypeInfo) (ht:P.underlying t=some (.slice e)) (hi:P.info? e=some i) (hz:i.zero=some (.string ⟨#[]⟩)) (hs:i.size=1) (hb:i.bytes=16)
 (hs0:a.eval s=Sn) (v:Value) (ns:List Bt) (hx:a.eval x=v) (hv:bE S w v ns) (hl:ns.length≤1000000)
 (h:∀v' w',w'.ownsRow w.heap.size e 1 v' ns.length (ns.map Value.string)→w.grownBy w' none→wpList P ops Q rest (a.put o.dst v') w'):wpList P ops Q (o::rest) a w:=by
 refine BigFrame.wpList_want hgd fun K hK=>?_
 obtain ⟨v',w',hr,h2,h3⟩:=wL (P:=P) (ty:=o.type) w ht hi hz hs hb hv hl;unfold Oper.wp execOp;simp only [ho,resolve,invoke,builtin,Sem.run_bind,Sem.run_pure,Result.andThen_ok,List.map_toArray,Bj,List.map_nil,hs0,hx,hr];exact hK _ _ (h v' w' h2 h3)
def nK (w:World) (b:Nat):Prop:=∃cs T,w.heap[b]?=some (.cells cs T (0,0))
def Fr (base:Nat) (w:World) (b:Nat):Prop:=base≤b∧b<w.heap.size∧nK w b
theorem Fr.move {base base':Nat} {w w':World} {b:Nat} (h:Fr base w b) (e:w'.heap[b]?=w.heap[b]?) (hb:base'≤base) (hs:w.heap.size≤w'.heap.size):Fr base' w' b:=by
 obtain ⟨h1,h2,cs,T,h3⟩:=h;exact ⟨by omega,by omega,cs,T,e.trans h3⟩
theorem bE.and {S S':Nat→Prop} {w:World} {v:Value} {ns:List Bt} (h:bE S w v ns) (k:bE S' w v ns):bE (fun b=>S b∧S' b) w v ns:=by
 obtain ⟨ao,cap,e,h1,h2,h3⟩:=h;obtain ⟨ao',cap',e',k1,k2,k3⟩:=k;rw [e] at e';cases e';refine ⟨ao,cap,e,h1,h2,fun j s hj=>?_⟩
 obtain ⟨b,off,eq,hS,hc,hs⟩:=h3 j s hj;obtain ⟨b',off',eq',kS,_,_⟩:=k3 j s hj;rw [eq] at eq';cases eq';exact ⟨b,off,eq,⟨hS,kS⟩,hc,hs⟩
theorem aC.and {S S':Nat→Prop} {w:World}:∀ {d:Nat} {cs:Vl} {x:ND},aC d S w cs x→aC d S' w cs x→aC d (fun b=>S b∧S' b) w cs x
 | 0,_,_,h,_=>h.elim
 | d+1,cs,x,h,k=>by
  obtain ⟨vn,vi,e,ht,hn,hi⟩:=h;obtain ⟨vn',vi',e',_,kn,ki⟩:=k;rw [e] at e';simp only [Bq,Di,Dp] at e';obtain ⟨rfl,rfl⟩:=e';refine ⟨vn,vi,e,ht,hn.and kn,?_⟩;obtain ⟨ao,cap,e,h1,h2,h3⟩:=hi;obtain ⟨ao',cap',e',k1,k2,k3⟩:=ki;rw [e] at e';cases e';refine ⟨ao,cap,e,h1,h2,fun j y hj=>?_⟩
  obtain ⟨b,off,cs1,eq,hS,hc,hr⟩:=h3 j y hj;obtain ⟨b',off',cs2,eq',kS,kc,kr⟩:=k3 j y hj;rw [eq] at eq';cases eq';have hcs:cs1=cs2:=by
   apply List.ext_getElem?
   intro f;have l1:=hr.len;have l2:=kr.len;rcases Cc f 6 with hf | hf
   ·have a1:=hc f _ (Ac (by omega))
    have a2:=kc f _ (Ac (by omega))
    rw [a1] at a2;rw [Ac (by omega),Ac (by omega)]
    exact a2
   ·rw [By (by omega),By (by omega)]
  subst hcs;exact ⟨b,off,cs1,eq,⟨hS,kS⟩,hc,aC.and hr kr⟩
theorem jH.fr {TS:TypeId} {base:Nat} {w:World} {v:Value} {ns:List Bt} (h:jH TS base w v ns):bE (Fr base w) w v ns:=by
 obtain ⟨h1,h2⟩:=h;rcases h1.2 with ⟨rfl,h0⟩ | ⟨g,cap,cur,rfl,hb,hg,hnc,hcm,hcs,hcu⟩
 ·have hn:ns=[]:=Au.1 h0
  subst hn;exact bE.nil _ _
 ·refine ⟨_,cap,rfl,hnc,hcm,fun j s hj=>⟨g,0,rfl,⟨hb,Aa hg,_,_,hg⟩,?_,h2 s (Aq hj)⟩⟩
  have:=h1.cells (g:=g) rfl j (.string s) (by rw [Bc,hj];rfl)
  rw [Bn] at this;exact this
theorem gS.fr {TN:TypeId} {d base:Nat} {X:Option Nat} {w:World} {v:Value} {A:List NC} (h:gS TN d base X w v A) (hp:∀x,x ∈ A→aC d (nK w) w x.1 x.2):cB (aC d (Fr base w) w) (Fr base w) w v (aE A):=by
 obtain ⟨h1,h0,h2⟩:=h;have hl:(aE A).length=A.length:=by simp [aE]
 have h6:∀y,y ∈ A→y.1.length=6:=fun y hy=>(h2 y hy).len
 rcases h1.2 with ⟨rfl,hA0⟩ | ⟨g,cap,cur,rfl,hb,hg,hnc,hcm,hcs,hcu⟩
 ·have hn:A=[]:=Au.1 hA0
  subst hn;exact cB.nil _ _ _
 ·refine ⟨_,cap,by rw [hl],by omega,hcm,fun j x hj=>?_⟩
  have hj':j<A.length:=by
   rcases Cc j A.length with h' | h'
   ·exact h'
   ·rw [By (by omega)] at hj;cases hj
  have e:A[j]?=some (A[j].1,A[j].2):=by rw [Ac hj']
  have hx:x=A[j].2:=by
   rw [aE,Bc,e] at hj;exact (Ab hj).symm
  subst hx;refine ⟨g,0,A[j].1,rfl,⟨hb,Aa hg,_,_,hg⟩,fun f u hu=>?_,((h2 _ (Do hj')).and (hp _ (Do hj'))).mono fun b hb=>⟨hb.1.1,hb.1.2.1,hb.2⟩⟩
  have:=h1.cells (g:=g) rfl _ _ (jL h6 e f u hu);rw [Bn,←Nat.add_assoc] at this;exact this
theorem AI {w w':World} (h:w.grownBy w' none):Below w.heap.size w w':=⟨h.os,h.tape,h.output,h.size,fun i hi=>h.block i hi (by simp)⟩
def aHb (w:World) (ns:List Bt) (e:Ending) (w':World):Prop:=∃v,e=.returned v∧bE (Fr w.heap.size w') w' v ns∧v.oneCell'=true∧Below w.heap.size w w'∧jH 9 w.heap.size w' v ns
theorem bE.one {S:Nat→Prop} {w:World} {v:Value} {ns:List Bt} (h:bE S w v ns):v.oneCell'=true:=by
 obtain ⟨a,c,rfl,_⟩:=h;rfl
theorem bE.sizes {S:Nat→Prop} {w:World} {v:Value} {ns:List Bt} (h:bE S w v ns):∀s,s ∈ ns→s.size≤maxLen - 2:=by
 intro s hs;obtain ⟨j,hj,rfl⟩:=List.getElem_of_mem hs;obtain ⟨a,c,_,_,_,h⟩:=h;obtain ⟨_,_,_,_,_,h⟩:=h j _ (Ac hj);exact h
theorem AB {S:Nat→Prop} (v:Value) (ns:List Bt) (w:World) (h:bE S w v ns) (hl:ns.length≤1000000):Calls prog 83 #[v] w (aHb w ns):=by
 obtain ⟨iq,hiq,hy0,hy1,hy2⟩:=qC;have hus:=underlying25;have HI:=Hh hiq;have H:=Hh h;have hsz:=Hh h.sizes;clear h hiq
 go_enter func83,ntmps83
 go_wp2_with (refine lE _ rfl (.const (Sn)) (.tmp 3) 25 rfl 9 iq hus HI.o hy0 hy1 hy2 rfl v ns rfl H.o hl ?_;intro v' w' hown hgrow)
 go_ret
 have hrow:jH 9 w.heap.size w' v' ns:=⟨hown,hsz.o⟩;exact ⟨v',rfl,hrow.fr,hrow.strs.one,AI hgrow,hrow⟩
def nL (d:Nat) (w:World) (x:ND) (e:Ending) (w':World):Prop:=∃cs,e=.returned (.agg cs.toArray)∧aC d (Fr w.heap.size w') w' cs x∧Below w.heap.size w w'
def AR (d:Nat) (w:World) (its:List ND) (e:Ending) (w':World):Prop:=∃v,e=.returned v∧cB (aC d (Fr w.heap.size w') w') (Fr w.heap.size w') w' v its∧Below w.heap.size w w'
theorem mS {its:List ND} {j:Nat} {x:ND} (h:its[j]?=some x):its.take (j+1)=its.take j++[x]:=by rw [Bf,h];rfl
theorem dH {α:Type} {l:List α} {j:Nat} {x:α} (h:l[j]?=some x):j<l.length:=by
 rcases Cc j l.length with h' | h'
 ·exact h'
 ·rw [By h'] at h;cases h
theorem aC.slices {d:Nat} {S:Nat→Prop} {w:World} {cs:Vl} {x:ND} (h:aC d S w cs x):∃a1 l1 c1 a2 l2 c2,cs=[Iz x.kind,.bool x.bool,Iz x.num,.string x.text,.slice a1 l1 c1,.slice a2 l2 c2]:=by
 cases d with
 | zero=>exact h.elim
 | succ d=>
  obtain ⟨va,vb,rfl,_,⟨a1,c1,rfl,_⟩,⟨a2,c2,rfl,_⟩⟩:=h;exact ⟨_,_,_,_,_,_,rfl⟩
theorem cB.at {d:Nat} {S:Nat→Prop} {w:World} {ao:Option Addr} {l cap:Nat} {its:List ND} (h:cB (aC d S w) S w (.slice ao l cap) its) {j:Nat} (hj:j<its.length) :
 l=its.length∧l≤cap∧cap≤maxLen∧∃b off x a1 l1 c1 a2 l2 c2,ao=some ⟨b,off,none⟩∧S b∧its[j]?=some x∧aC d S w [Iz x.kind,.bool x.bool,Iz x.num,.string x.text,.slice a1 l1 c1,.slice a2 l2 c2] x ∧
  w.cell? ⟨b,off+j * 6,none⟩=some (Iz x.kind)∧w.cell? ⟨b,off+j * 6+1,none⟩=some (.bool x.bool)∧w.cell? ⟨b,off+j * 6+2,none⟩=some (Iz x.num)∧w.cell? ⟨b,off+j * 6+3,none⟩=some (.string x.text)∧w.cell? ⟨b,off+j * 6+4,none⟩=some (.slice a1 l1 c1)∧w.cell? ⟨b,off+j * 6+5,none⟩=some (.slice a2 l2 c2):=by
 obtain ⟨ao',cap',e,h1,h2,h3⟩:=h;cases e;obtain ⟨b,off,cs,rfl,hS,hc,hr⟩:=h3 j _ (Ac hj);obtain ⟨a1,l1,c1,a2,l2,c2,rfl⟩:=hr.slices;exact ⟨rfl,h1,h2,b,off,its[j],a1,l1,c1,a2,l2,c2,rfl,hS,Ac hj,hr,hc 0 _ rfl,hc 1 _ rfl,hc 2 _ rfl,hc 3 _ rfl,hc 4 _ rfl,hc 5 _ rfl⟩
theorem Below.grown {w w':World} (hb:Below w.heap.size w w'):w.grownBy w' none:=⟨hb.os,hb.tape,hb.output,hb.size,fun i hi _=>hb.block i hi⟩
theorem gS.plain {TN:TypeId} {d base:Nat} {X:Option Nat} {w w':World} {v:Value} {A:List NC} {row:Option Nat} (h:gS TN d base X w v A) (hp:∀x,x ∈ A→aC d (nK w) w x.1 x.2) (hg:w.grownBy w' row) (hr:∀r,row=some r→r<base∨v.ownBlock=some r):∀x,x ∈ A→aC d (nK w') w' x.1 x.2:=by
 intro x hx;have e:∀b,(base≤b∧b<w.heap.size∧v.ownBlock ≠ some b∧X ≠ some b)→w'.heap[b]?=w.heap[b]?:=fun b hb=>hg.block b hb.2.1 fun e=>by
  rcases hr b e.symm with hr | hr
  ·omega
  ·exact hb.2.2.1 hr
 exact ((((h.2.2 x hx).and (hp x hx)).same (w':=w') fun b hb=>e b hb.1)).mono fun b hb=>by
  obtain ⟨cs,T,hh⟩:=hb.2;exact ⟨cs,T,(e b hb.1).trans hh⟩
theorem wC {d:Nat} (HC:∀ (S:Nat→Prop) (cs:Vl) (x:ND) (w:World),aC d S w cs x→(∀b,S b→b<w.heap.size)→jG d x→Calls prog 57 #[.agg cs.toArray] w (nL d w x))
 (S:Nat→Prop) (v:Value) (its:List ND) (w:World) (h:cB (aC d S w) S w v its) (hS:∀b,S b→b<w.heap.size) (hl:its.length≤1000000) (hlow:∀y,y ∈ its→jG d y):Calls prog 84 #[v] w (AR d w its):=by
 obtain ⟨ip,hip,hz0,hz1,hz2⟩:=qD;have hug:=underlying26;have HI:=Hh hip;obtain ⟨ao,cap,rfl,hc1,hc2,hc3⟩:=h;have H:Hid (cB (aC d S w) S w (.slice ao its.length cap) its):=Hh ⟨ao,cap,rfl,hc1,hc2,hc3⟩;have HCC:=Hh HC;have HL:=Hh hlow;have HS:=Hh hS;unfold maxLen at hc2;clear hip hc3 HC hlow hS
 go_enter func84,ntmps84
 go_wp2
 go_loopw [3,8] (fun vi i wr=>∃ (j:Nat) (A:List NC),i=Iz j∧j≤its.length∧gS 28 d w.heap.size none wr vi A∧aE A=its.take j∧Below w.heap.size w wr∧(∀x,x ∈ A→aC d (nK wr) wr x.1 x.2)) (fun _ i _=>its.length - (intOf i).toNat)
 case atStart=>exact ⟨0,[],rfl,Ax _,gS.nil _ _ _ _ _,rfl,Br _ _,fun x hx=>by cases hx⟩
 case round=>
  obtain ⟨j,A,rfl,hj,hrow,hA,hB,hpl⟩:=hrel
  by_cases hlt:j<its.length
  ·have hlt':(j:Int)<(its.length:Int):=by omega
   have hj0:(0:Int)≤(j:Int):=by omega
   obtain ⟨-,-,-,b,off,x,a1,l1,c1,a2,l2,c2,rfl,hSb,hx,hnd,k0,k1,k2,k3,k4,k5⟩:=H.o.at hlt;have hbw:=HS.o b hSb;have q0:=(hB.cell (p:=⟨b,off+j * 6,none⟩) hbw).trans k0;have q1:=(hB.cell (p:=⟨b,off+j * 6+1,none⟩) hbw).trans k1;have q2:=(hB.cell (p:=⟨b,off+j * 6+2,none⟩) hbw).trans k2;have q3:=(hB.cell (p:=⟨b,off+j * 6+3,none⟩) hbw).trans k3;have q4:=(hB.cell (p:=⟨b,off+j * 6+4,none⟩) hbw).trans k4;have q5:=(hB.cell (p:=⟨b,off+j * 6+5,none⟩) hbw).trans k5;clear k0 k1 k2 k3 k4 k5;have HX:=Hh hx;have HA:=Hh hA;have hlA:A.length=j:=by
    have:=Ad List.length hA;rw [aE,Bi,Ba] at this;omega
   have hlA2:A.length<1000000:=by omega
   clear hlA;have hlow:=HL.o x (Aq hx);have b1:=(Br wr.heap.size wr).alloc (o:=.cells #[Iz x.kind,.bool x.bool,Iz x.num,.string x.text,.slice a1 l1 c1,.slice a2 l2 c2] 28) (Lr _);have hnd1:=hnd.same (w':=wr.alloc (.cells #[Iz x.kind,.bool x.bool,Iz x.num,.string x.text,.slice a1 l1 c1,.slice a2 l2 c2] 28)) fun b hb=>((hB.trans (b1.mono hB.size)).block b (HS.o b hb))
   have hrow1:=hrow.below b1;have hpl1:=gS.plain hrow hpl (Below.grown b1) (fun r e=>by cases e)
   have hB1:=hB.trans (b1.mono hB.size);have CC:=Hh (HCC.o S _ x _ hnd1 (fun b hb=>Ll (HS.o b hb) hB1.size) hlow)
   clear hx hA hnd hnd1 hrow hB b1 hlow hpl
   go_upto_region 5 with fail
   clear q0 q1 q2 q3 q4 q5;generalize hW:wr.alloc (.cells #[Iz x.kind,.bool x.bool,Iz x.num,.string x.text,.slice a1 l1 c1,.slice a2 l2 c2] 28)=W1 at hrow1 hB1 CC hpl1 ⊢;have hbk:W1.heap[wr.heap.size]?=some (.cells #[Iz x.kind,.bool x.bool,Iz x.num,.string x.text,.slice a1 l1 c1,.slice a2 l2 c2] 28 (0,0)):=by rw [←hW];exact Hn _ _
   have cs1:=aA hbk;clear hW hbk
   go_upto_region 6 with (first
    | (go_at_call 57;(with_reducible refine (CC.o).mono ?_);rintro e W2 ⟨cs,rfl,hn2,hb2⟩;obtain ⟨a3,l3,c3,a4,l4,c4,rfl⟩:=hn2.slices;(have hrow2:=hrow1.below hb2);(have hpl2:=gS.plain hrow1 hpl1 (Below.grown hb2) (fun r e=>by cases e));(have hB2:=hB1.trans (hb2.mono hB1.size));(have b3:=(Br W2.heap.size W2).alloc (o:=.cells #[Iz x.kind,.bool x.bool,Iz x.num,.string x.text,.slice a3 l3 c3,.slice a4 l4 c4] 28) (Lr _));(have hrow3:=hrow2.below b3);(have hpl3:=gS.plain hrow2 hpl2 (Below.grown b3) (fun r e=>by cases e));(have hB3:=hB2.trans (b3.mono hB2.size));(have hn3:=(hn2.same (w':=W2.alloc (.cells #[Iz x.kind,.bool x.bool,Iz x.num,.string x.text,.slice a3 l3 c3,.slice a4 l4 c4] 28)) fun b hb=>b3.block b hb.2.1));(have hone:=hn2.one))
    | (refine Bk _ rfl (.tmp 12) (.tmp 15) 26 rfl w.heap.size 28 ip (.agg Z6) 6 88 hug HI.o hz0 hz1 hz2 rfl (by decide) u3 A.length _ rfl hrow3.1 ⟨W2.heap.size,0,none⟩ 1 1 [Iz x.kind,.bool x.bool,Iz x.num,.string x.text,.slice a3 l3 c3,.slice a4 l4 c4] rfl rfl (gC _ _ _ _ rfl) hone (by decide) (by unfold maxLen;omega) (by omega) hB3.size _ rfl ?_;intro g8 c8 W8 hown hgrow hat hlt8;clear hrow2 hB2 hpl2))
   have hrow8:=hrow3.push hown hgrow (fK hat) (fun b e=>by cases e) (hn3.mono fun b hb=>⟨Ae hB1.size hb.1,Ll hb.2.1 b3.size,FD hrow1.1 hb.1,by simp⟩)
   have hpl8:∀y,y ∈ A++[([Iz x.kind,.bool x.bool,Iz x.num,.string x.text,.slice a3 l3 c3,.slice a4 l4 c4],x)]→aC d (nK W8) W8 y.1 y.2:=by
    intro y hy;rcases Bb.1 hy with hy | hy
    ·exact gS.plain hrow3 hpl3 hgrow (fun r e=>.inr e) y hy
    ·cases At.1 hy
     have e8:∀b,Fr W1.heap.size W2 b→W8.heap[b]?=W2.heap[b]?:=fun b hb=>(hgrow.block b (Ll hb.2.1 b3.size) (fun e=>FD hrow1.1 hb.1 e.symm)).trans (b3.block b hb.2.1)
     exact (hn2.same e8).mono fun b hb=>(hb.move (base':=0) (e8 b hb) (Ax _) (Ae b3.size hgrow.size)).2.2
   have hB8:=FG hB3 hrow3.1 hgrow hB3.size;clear hrow3 hown hgrow hat hrow1 hB1 hB3 hn3 hn2 hb2 b3 hone cs1 CC hpl1 hpl3
   go_wp2
   go_roundw
   case rel=>
    refine ⟨j+1,_,by go_num,by omega,hrow8,?_,hB8,hpl8⟩
    rw [mS HX.o,←HA.o];simp [aE]
   case measure=>simp [intOf];omega
  ·have hlt':¬ (j:Int)<(its.length:Int):=by omega
   have hjl:j=its.length:=by omega
   have HA:=Hh hA;have HJ:=Hh hjl;clear hA hjl
   go_wp2
   go_ret
   refine ⟨_,rfl,?_,hB⟩;have:=hrow.fr hpl;rw [HA.o,HJ.o,List.take_length] at this;exact this
theorem RC {d:Nat} (HC:∀ (S:Nat→Prop) (v:Value) (its:List ND) (w:World),cB (aC d S w) S w v its→(∀b,S b→b<w.heap.size)→its.length≤1000000→(∀y,y ∈ its→jG d y)→Calls prog 84 #[v] w (AR d w its))
 (S:Nat→Prop) (cs:Vl) (x:ND) (w:World) (h:aC (d+1) S w cs x) (hS:∀b,S b→b<w.heap.size) (hlow:jG (d+1) x):Calls prog 57 #[.agg cs.toArray] w (nL (d+1) w x):=by
 obtain ⟨a1,l1,c1,a2,l2,c2,rfl⟩:=h.slices;obtain ⟨vn,vi,e,ht,hns,his⟩:=h;simp only [Bq,Di,Dp] at e;obtain ⟨rfl,rfl⟩:=e;obtain ⟨w1,hw1⟩:∃W,W=(w.alloc (.cells #[Iz x.kind,.bool x.bool,Iz x.num,.string x.text,.slice a1 l1 c1,.slice a2 l2 c2] 28)).alloc (.cells Z6 28):=⟨_,rfl⟩;have hz:(w.alloc (.cells #[Iz x.kind,.bool x.bool,Iz x.num,.string x.text,.slice a1 l1 c1,.slice a2 l2 c2] 28)).heap.size=w.heap.size+1:=by simp
 have b1:Below w.heap.size w w1:=by rw [hw1];exact ((Br _ _).alloc (Lr _) _).alloc (by simp) _
 have hr1:w1.heap[w.heap.size+1]?=some (.cells Z6 28 (0,0)):=by rw [hw1,←hz];exact Hn _ _
 have hb1:w1.heap[w.heap.size]?=some (.cells #[Iz x.kind,.bool x.bool,Iz x.num,.string x.text,.slice a1 l1 c1,.slice a2 l2 c2] 28 (0,0)):=by rw [hw1];exact (Bh _ _ _ (by omega)).trans (Hn _ _)
 have hns1:=hns.same (w':=w1) fun b hb=>b1.block b (hS b hb)
 have CT:=Hh (AB _ _ w1 hns1 hlow.1);have HCC:=Hh HC;have HL:=Hh hlow;have HS:=Hh hS;have HIS:=Hh his;have cb:=aA hb1;have fb:=aD hb1;have HR:=Hh hr1;have HB:=Hh hb1;have hw1s:w.heap.size+1<w1.heap.size:=Aa hr1;clear HC hlow hS hns his hns1 hr1 hb1 hz
 go_enter func57,ntmps57
 go_upto_region 1 with fail
 rw [←hw1];clear hw1
 go_upto_region 2 with ((with_reducible refine (CT.o).mono ?_);rintro e w2 ⟨v1,rfl,hv1,hv1o,hb2,-⟩;obtain ⟨a3,c3,rfl,hv1r⟩:=hv1;(have hk2:=(hb2.block _ (Aa HB.o)).trans HB.o);(have f2:=aD hk2);(have c2':=aA hk2);clear hk2)
 have hv1:bE (Fr w1.heap.size w2) w2 (.slice a3 x.names.length c3) x.names:=⟨a3,c3,rfl,hv1r⟩;have hk2:=(hb2.block _ (Aa HB.o)).trans HB.o;have hk3:=lI hk2 (.slice a3 x.names.length c3);have hr2:=(hb2.block _ (Aa HR.o)).trans HR.o;have hoth:∀b,b ≠ w.heap.size→(w2.setCell ⟨w.heap.size,4,none⟩ (.slice a3 x.names.length c3)).heap[b]?=w2.heap[b]?:=fun b hb=>heap_setCell_other w2 ⟨w.heap.size,4,none⟩ b _ hb
 have hsz3:(w2.setCell ⟨w.heap.size,4,none⟩ (.slice a3 x.names.length c3)).heap.size=w2.heap.size:=by simp
 have hr3:=(hoth (w.heap.size+1) (by omega)).trans hr2
 have hv3:=hv1.same fun b hb=>hoth b (by have:=hb.1;omega)
 have hsame:∀b,S b→(w2.setCell ⟨w.heap.size,4,none⟩ (.slice a3 x.names.length c3)).heap[b]?=w.heap[b]?:=fun b hb=>(hoth b (by have:=HS.o b hb;omega)).trans ((hb2.block b (by have:=HS.o b hb;omega)).trans (b1.block b (HS.o b hb)))
 have his3:=HIS.o.same hsame fun cs y q=>q.same hsame
 have B3:Below w.heap.size w (w2.setCell ⟨w.heap.size,4,none⟩ (.slice a3 x.names.length c3)):=(b1.trans (hb2.mono b1.size)).setCell (Lr _) _;obtain ⟨w3,hw3⟩:∃W,W=w2.setCell ⟨w.heap.size,4,none⟩ (.slice a3 x.names.length c3):=⟨_,rfl⟩;rw [←hw3] at hk3 hsz3 hr3 hv3 hsame his3 B3;have hoth3:∀b,b ≠ w.heap.size→w3.heap[b]?=w2.heap[b]?:=by rw [hw3];exact hoth
 rw [←hw3];have CI:=Hh (HCC.o _ _ _ w3 his3 (fun b hb=>by have:=HS.o b hb;have:=hb2.size;omega) HL.o.2.1 HL.o.2.2)
 have c3':=aA hk3;have HK:=Hh hk3;have HR3:=Hh hr3;have hw2s:=hb2.size;clear hoth his3 hk3 hk2 hr2 hr3 hw3 hsame hv1 hv1r f2 c2' cb fb hv1o HR HB CT HCC HIS b1 hb2
 go_upto_region 3 with ((with_reducible refine (CI.o).mono ?_);rintro e w4 ⟨v2,rfl,hv2,hb4⟩;obtain ⟨a4,c4,rfl,hv2r⟩:=hv2;(have hk4:=(hb4.block _ (Aa HK.o)).trans HK.o);(have f4:=aD hk4);(have c4':=aA hk4);clear hk4)
 have hv2:cB (aC d (Fr w3.heap.size w4) w4) (Fr w3.heap.size w4) w4 (.slice a4 x.items.length c4) x.items:=⟨a4,c4,rfl,hv2r⟩;have hk4:=(hb4.block _ (Aa HK.o)).trans HK.o;have hk5:=kD hk4 (.slice a4 x.items.length c4);have hr4:=(hb4.block _ (Aa HR3.o)).trans HR3.o;have hoth:∀b,b ≠ w.heap.size→(w4.setCell ⟨w.heap.size,5,none⟩ (.slice a4 x.items.length c4)).heap[b]?=w4.heap[b]?:=fun b hb=>heap_setCell_other w4 ⟨w.heap.size,5,none⟩ b _ hb
 have hsz5:(w4.setCell ⟨w.heap.size,5,none⟩ (.slice a4 x.items.length c4)).heap.size=w4.heap.size:=by simp
 have hr5:=(hoth (w.heap.size+1) (by omega)).trans hr4
 have hb4s:=hb4.size;have hv5:=(hv3.same fun b hb=>hb4.block b (by have:=hb.2.1;omega)).same fun b hb=>hoth b (by have:=hb.1;omega)
 have hfr1:∀b,Fr w1.heap.size w2 b→(w4.setCell ⟨w.heap.size,5,none⟩ (.slice a4 x.items.length c4)).heap[b]?=w2.heap[b]?:=fun b hb=>(hoth b (by have:=hb.1;omega)).trans ((hb4.block b (by have:=hb.2.1;omega)).trans (hoth3 b (by have:=hb.1;omega)))
 have hfr2:∀b,Fr w3.heap.size w4 b→(w4.setCell ⟨w.heap.size,5,none⟩ (.slice a4 x.items.length c4)).heap[b]?=w4.heap[b]?:=fun b hb=>hoth b (by have:=hb.1;omega)
 have hi5:=hv2.same (w':=w4.setCell ⟨w.heap.size,5,none⟩ (.slice a4 x.items.length c4)) (R':=aC d (Fr w3.heap.size w4) (w4.setCell ⟨w.heap.size,5,none⟩ (.slice a4 x.items.length c4))) (fun b hb=>hfr2 b hb) fun cs y q=>q.same fun b hb=>hfr2 b hb
 have B5:Below w.heap.size w (w4.setCell ⟨w.heap.size,5,none⟩ (.slice a4 x.items.length c4)):=(B3.trans (hb4.mono B3.size)).setCell (Lr _) _;obtain ⟨w5,hw5⟩:∃W,W=w4.setCell ⟨w.heap.size,5,none⟩ (.slice a4 x.items.length c4):=⟨_,rfl⟩;rw [←hw5] at hk5 hsz5 hr5 hv5 hi5 B5 hfr1 hfr2;rw [←hw5];have c5':=aA hk5;have f5:=aD hr5;have d5:=aA hr5;have hne:¬w.heap.size+1=w.heap.size:=by omega
 have hne2:¬w.heap.size=w.heap.size+1:=by omega
 have HR5:=Hh hr5;have HV5:=Hh hv5;have HI5:=Hh hi5;have HF1:=Hh hfr1;have HF2:=Hh hfr2;clear hoth hk4 hk5 hr4 hr5 hw5 hv2 hv2r f4 c4' CI HK HR3 hb4 hv3 hv5 hi5 hoth3 hfr1 hfr2
 go_wp2
 have hput:=dB HR5.o (Iz x.kind) (.bool x.bool) (Iz x.num) (.string x.text) (.slice a3 x.names.length c3) (.slice a4 x.items.length c4);have hgs:=aM w5 (w.heap.size+1) (Iz x.kind) (.bool x.bool) (Iz x.num) (.string x.text) (.slice a3 x.names.length c3) (.slice a4 x.items.length c4);have hgb:∀b,b ≠ w.heap.size+1→b<w5.heap.size→(dE w5 (w.heap.size+1) (Iz x.kind) (.bool x.bool) (Iz x.num) (.string x.text) (.slice a3 x.names.length c3) (.slice a4 x.items.length c4)).heap[b]?=w5.heap[b]?:=fun b hb hl=>hgs.block b hl (by intro e;exact hb (Ab e))
 have hgz:=hgs.size;refine Ar (v:=.agg #[Iz x.kind,.bool x.bool,Iz x.num,.string x.text,.slice a3 x.names.length c3,.slice a4 x.items.length c4]) ?_ ?_ ?_;rotate_left
 ·rfl
 ·refine ⟨[Iz x.kind,.bool x.bool,Iz x.num,.string x.text,.slice a3 x.names.length c3,.slice a4 x.items.length c4],rfl,⟨_,_,rfl,ht,?_,?_⟩,?_⟩
  ·exact (HV5.o.same fun b hb=>hgb b (by have:=hb.1;omega) (by have:=hb.2.1;omega)).mono fun b hb=>hb.move ((hgb b (by have:=hb.1;omega) (by have:=hb.2.1;omega)).trans (HF1.o b hb)) (by omega) (Ae (by omega) hgz)
  ·exact (HI5.o.same (fun b hb=>hgb b (by have:=hb.1;omega) (by have:=hb.2.1;omega)) fun cs y q=>q.same fun b hb=>hgb b (by have:=hb.1;omega) (by have:=hb.2.1;omega)).mono (fun b hb=>hb.move ((hgb b (by have:=hb.1;omega) (by have:=hb.2.1;omega)).trans (HF2.o b hb)) (by omega) (Ae (by omega) hgz)) fun cs y q=>q.mono fun b hb=>hb.move ((hgb b (by have:=hb.1;omega) (by have:=hb.2.1;omega)).trans (HF2.o b hb)) (by omega) (Ae (by omega) hgz)
  ·exact ⟨hgs.os.trans B5.os,hgs.tape.trans B5.tape,hgs.output.trans B5.output,Ae B5.size hgs.size,fun i hi=>(hgb i (by omega) (by omega)).trans (B5.block i hi)⟩
 ·obtain ⟨q0,q1,q2,q3,q4,q5⟩:=aA hput
  simp only [dE] at q0 q1 q2 q3 q4 q5;simp [results,results57,go_sem,q0,q1,q2,q3,q4,q5]
theorem uQ:∀ (d:Nat) (S:Nat→Prop) (cs:Vl) (x:ND) (w:World),aC d S w cs x→(∀b,S b→b<w.heap.size)→jG d x→Calls prog 57 #[.agg cs.toArray] w (nL d w x)
 | 0,S,cs,x,w,h,_,_=>h.elim
 | d+1,S,cs,x,w,h,hS,hl=>RC (fun S v its w h hS hl hlow=>wC (fun S cs x w h hS hl=>uQ d S cs x w h hS hl) S v its w h hS hl hlow) S cs x w h hS hl
theorem QZ (d:Nat) (S:Nat→Prop) (v:Value) (its:List ND) (w:World) (h:cB (aC d S w) S w v its) (hS:∀b,S b→b<w.heap.size) (hl:its.length≤1000000) (hlow:∀y,y ∈ its→jG d y):Calls prog 84 #[v] w (AR d w its):=
 wC (fun S cs x w h hS hl=>uQ d S cs x w h hS hl) S v its w h hS hl hlow
section
variable {w:World} {g:Nat} {T:Nat} {a b c d:Value}
theorem nD (h:w.heap[g]?=some (.cells #[a,b,c,d] T (0,0))):w.cell? ⟨g,0,none⟩=some a∧w.cell? ⟨g,1,none⟩=some b∧w.cell? ⟨g,2,none⟩=some c∧w.cell? ⟨g,3,none⟩=some d:=by
 simp [World.cell?,h]
theorem XQ (h:w.heap[g]?=some (.cells #[a,b,c,d] T (0,0))):w.frozen? ⟨g,0,none⟩=false∧w.frozen? ⟨g,1,none⟩=false∧w.frozen? ⟨g,2,none⟩=false∧w.frozen? ⟨g,3,none⟩=false:=by
 simp [World.frozen?,h]
def OF (w:World) (g:Nat) (a b c d:Value):World:=(((w.setCell ⟨g,0,none⟩ a).setCell ⟨g,1,none⟩ b).setCell ⟨g,2,none⟩ c).setCell ⟨g,3,none⟩ d
theorem sQ (h:w.heap[g]?=some (.cells #[a,b,c,d] T (0,0))) (a' b' c' d':Value):(OF w g a' b' c' d').heap[g]?=some (.cells #[a',b',c',d'] T (0,0)):=by
 have h0:(w.setCell ⟨g,0,none⟩ a').heap[g]?=some (.cells #[a',b,c,d] T (0,0)):=dQ h a';have h1:((w.setCell ⟨g,0,none⟩ a').setCell ⟨g,1,none⟩ b').heap[g]?=some (.cells #[a',b',c,d] T (0,0)):=dQ h0 b';have h2:(((w.setCell ⟨g,0,none⟩ a').setCell ⟨g,1,none⟩ b').setCell ⟨g,2,none⟩ c').heap[g]?=some (.cells #[a',b',c',d] T (0,0)):=dQ h1 c';exact dQ h2 d'
theorem QH (w:World) (g:Nat) (a b c d:Value):w.grownBy (OF w g a b c d) (some g):=
 aH (aH (aH (aR w g 0 a) (aR _ g 1 b)) (aR _ g 2 c)) (aR _ g 3 d)
end
theorem MS.all {w:World} {g:Nat} (h:MS w g):(w.cell? ⟨g,0,none⟩=(foC 0)[0]?∧w.cell? ⟨g,1,none⟩=(foC 0)[1]?∧w.cell? ⟨g,2,none⟩=(foC 0)[2]?∧w.cell? ⟨g,3,none⟩=(foC 0)[3]?)∧(w.cell? ⟨g,4,none⟩=(foC 1)[0]?∧w.cell? ⟨g,5,none⟩=(foC 1)[1]?∧w.cell? ⟨g,6,none⟩=(foC 1)[2]?∧w.cell? ⟨g,7,none⟩=(foC 1)[3]?)∧(w.cell? ⟨g,8,none⟩=(foC 2)[0]?∧w.cell? ⟨g,9,none⟩=(foC 2)[1]?∧w.cell? ⟨g,10,none⟩=(foC 2)[2]?∧w.cell? ⟨g,11,none⟩=(foC 2)[3]?):=
 ⟨⟨h.at 0 0 (by decide) (by decide),h.at 0 1 (by decide) (by decide),h.at 0 2 (by decide) (by decide),h.at 0 3 (by decide) (by decide)⟩,⟨h.at 1 0 (by decide) (by decide),h.at 1 1 (by decide) (by decide),h.at 1 2 (by decide) (by decide),h.at 1 3 (by decide) (by decide)⟩,⟨h.at 2 0 (by decide) (by decide),h.at 2 1 (by decide) (by decide),h.at 2 2 (by decide) (by decide),h.at 2 3 (by decide) (by decide)⟩⟩
def foB (k:Int):Bool:=if k=1 then true else if k=2 then true else if k=3 then true else false
theorem mN {k:Int} (h:k<1∨3<k):foR k=[Iz 0,.nilFunc,.nilFunc,.nilFunc]∧foB k=false:=by
 unfold foR foB;exact ⟨by rw [Af (by omega),Af (by omega),Af (by omega)],by rw [Af (by omega),Af (by omega),Af (by omega)]⟩
theorem sR (k:Int) (w:World):Calls prog 82 #[Iz k] w fun e w'=>e=.returned (.tuple #[.agg (foR k).toArray,.bool (foB k)])∧Below w.heap.size w w':=by
 have SE:=Hh (fun wx:World=>JQ wx)
 have IX:=Hh (fun (g b:Nat) (wx:World) (h:MS wx g) (hc:wx.cell? ⟨b,0,none⟩=some (Iz k)) (hb:b<wx.heap.size)=>aCf k g b wx h hc hb)
 have b1:=(Br w.heap.size w).alloc (o:=.cells #[Iz k] 3) (Lr _);have k1:=Hn w (.cells #[Iz k] 3);have z1:(w.alloc (.cells #[Iz k] 3)).heap.size=w.heap.size+1:=by simp
 go_enter func82,ntmps82
 go_upto_region 1 with fail
 generalize w.alloc _=w1 at b1 k1 z1 ⊢;have b2:=(Br w1.heap.size w1).alloc (o:=.cells #[Iz 0,.nilFunc,.nilFunc,.nilFunc] 119) (Lr _);have k2:=Hn w1 (.cells #[Iz 0,.nilFunc,.nilFunc,.nilFunc] 119);rw [z1] at k2;generalize w1.alloc _=w2 at b2 k2 ⊢;have hs1:=Aa k1;have hB2:Below w.heap.size w w2:=b1.trans (b2.mono b1.size);have hk2:=(b2.block _ hs1).trans k1;clear b1 k1 z1 b2 hs1
 go_upto_region 2 with ((with_reducible refine (SE.o _).mono ?_);rintro e w3 ⟨rfl,rfl⟩)
 generalize ae:w2.alloc _=w3;obtain ⟨b3,k3⟩:=Al ae;clear ae;have hl1:=Aa hk2;have hl2:=Aa k2;have q1:w3.cell? ⟨w.heap.size,0,none⟩=some (Iz k):=aL ((b3.block _ hl1).trans hk2) (j:=0) rfl;have IX3:=Hh (IX.o w2.heap.size w.heap.size w3 k3 q1 (Ll hl1 b3.size));have hB3:=hB2.trans (b3.mono hB2.size);have k23:=(b3.block _ hl2).trans k2;clear IX SE q1 b3 hk2 hB2 hl1
 go_upto_region 3 with ((with_reducible refine (IX3.o).mono ?_);rintro e w4 ⟨rfl,hb4⟩)
 have k24:=(hb4.block _ (Aa k23)).trans k23;have k34:MS w4 w2.heap.size:=(hb4.block _ (Aa k3)).trans k3;have HB:=Hh (hB3.trans (hb4.mono hB3.size));have HK:=Hh k24;have f1:=XQ k24;have c1:=nD k24;generalize w2.heap.size=gt at k34 ⊢;clear k3 k23 k2 hl2 hB3 hb4 IX3 k24;have fin:Hid (∀a b c d:Value,Below w.heap.size w (OF w4 (w.heap.size+1) a b c d)):=Hh fun a b c d=>HB.o.grown (QH w4 (w.heap.size+1) a b c d) HB.o.size (fun k hk=>by cases hk;exact Nat.le_succ _)
 generalize w.heap.size+1=g2 at HK f1 c1 fin ⊢;rcases XS k with ⟨rfl,hI⟩ | ⟨rfl,hI⟩ | ⟨rfl,hI⟩ | ⟨hk,hI⟩;rotate_right
 ·rw [hI]
  have HF:=Hh (mN hk);clear hI hk k34
  go_wp2
  refine Ar (v:=.tuple #[.agg #[Iz 0,.nilFunc,.nilFunc,.nilFunc],.bool false]) ?_ ?_ ?_;rotate_left
  ·rfl
  ·exact ⟨by rw [HF.o.1,HF.o.2],fin.o _ _ _ _⟩
  ·obtain ⟨q0,q1,q2,q3⟩:=nD (sQ HK.o (Iz 0) .nilFunc .nilFunc .nilFunc)
   simp only [OF] at q0 q1 q2 q3;simp [results,results82,go_sem,q0,q1,q2,q3]
 ·rw [hI]
  obtain ⟨⟨s0,s1,s2,s3⟩,-,-⟩:=k34.all;simp [foC] at s0 s1 s2 s3;clear hI k34
  go_wp2
  refine Ar (v:=.tuple #[.agg (foC 0).toArray,.bool true]) ?_ ?_ ?_;rotate_left
  ·rfl
  ·exact ⟨rfl,fin.o _ _ _ _⟩
  ·obtain ⟨q0,q1,q2,q3⟩:=nD (sQ HK.o (Iz 1) (.func (.func 126) #[] #[]) (.func (.func 127) #[] #[]) (.func (.func 128) #[] #[]))
   simp only [OF] at q0 q1 q2 q3;simp [results,results82,go_sem,q0,q1,q2,q3,foC]
 ·rw [hI]
  obtain ⟨-,⟨s0,s1,s2,s3⟩,-⟩:=k34.all;simp [foC] at s0 s1 s2 s3;clear hI k34
  go_wp2
  refine Ar (v:=.tuple #[.agg (foC 1).toArray,.bool true]) ?_ ?_ ?_;rotate_left
  ·rfl
  ·exact ⟨rfl,fin.o _ _ _ _⟩
  ·obtain ⟨q0,q1,q2,q3⟩:=nD (sQ HK.o (Iz 2) (.func (.func 129) #[] #[]) (.func (.func 130) #[] #[]) (.func (.func 131) #[] #[]))
   simp only [OF] at q0 q1 q2 q3;simp [results,results82,go_sem,q0,q1,q2,q3,foC]
 ·rw [hI]
  obtain ⟨-,-,s0,s1,s2,s3⟩:=k34.all;simp [foC] at s0 s1 s2 s3;clear hI k34
  go_wp2
  refine Ar (v:=.tuple #[.agg (foC 2).toArray,.bool true]) ?_ ?_ ?_;rotate_left
  ·rfl
  ·exact ⟨rfl,fin.o _ _ _ _⟩
  ·obtain ⟨q0,q1,q2,q3⟩:=nD (sQ HK.o (Iz 3) (.func (.func 132) #[] #[]) (.func (.func 133) #[] #[]) (.func (.func 134) #[] #[]))
   simp only [OF] at q0 q1 q2 q3;simp [results,results82,go_sem,q0,q1,q2,q3,foC]
def aEn (S:Bt) (E:Int) (w:World) (e:Ending) (w':World):Prop:=e=.returned (.tuple #[.string S,Iz E])∧Below w.heap.size w w'
def YT (P:ND→Int→Prop) (w:World) (e:Ending) (w':World):Prop:=∃ (cs:Vl) (x:ND) (er:Int),e=.returned (.tuple #[.agg cs.toArray,Iz er])∧aC 9 (fun b=>w.heap.size≤b∧b<w'.heap.size) w' cs x∧Below w.heap.size w w'∧P x er
theorem zX {D:Nat} {Sx:Nat→Prop} (k:Int) (F F2 F3:Nat) (cs:Vl) (x:ND) (w:World) (S:Bt) (E:Int) (h:aC D Sx w cs x) (hF:F=126∨F=129∨F=132) (hk:foR k=[Iz k,.func (.func F) #[] #[],.func (.func F2) #[] #[],.func (.func F3) #[] #[]]∧foB k=true)
 (EN:∀wx,Below w.heap.size w wx→Calls prog F #[.agg cs.toArray] wx (aEn S E wx)):Calls prog 45 #[Iz k,.agg cs.toArray] w (aEn S E w):=by
 obtain ⟨a1,l1,c1,a2,l2,c2,rfl⟩:=h.slices;have FO:=Hh (fun wx:World=>sR k wx)
 simp only [hk.1,hk.2] at FO;clear h hk
 go_enter func45,ntmps45
 go_upto_region 1 with fail
 generalize ae:w.alloc _=w1;obtain ⟨b1,k1⟩:=Al ae;clear ae
 go_upto_region 2 with ((with_reducible refine (FO.o _).mono ?_);rintro e w2 ⟨rfl,hb2⟩)
 generalize ae:w2.alloc _=w3;obtain ⟨b3,k3⟩:=Al ae;clear ae;have b23:=hb2.trans (b3.mono hb2.size);have f1:=aA ((b23.block _ (Aa k1)).trans k1);have f3:=nD k3;have hB:=b1.trans (b23.mono b1.size);have EN3:=Hh (EN w3 hB);have HB:=Hh hB;generalize w2.heap.size=g3 at f3 ⊢;clear EN FO k1 k3 b1 hb2 b3 b23 hB;unfold aEn at EN3;rcases hF with rfl | rfl | rfl <;> (
  go_wp2_with ((with_reducible refine (EN3.o).mono ?_);rintro e w4 ⟨rfl,hb4⟩)
  refine Ar (v:=.tuple #[.string S,Iz E]) ?_ rfl ?_
  ·simp [results,results45,go_sem]
  ·exact ⟨rfl,HB.o.trans (hb4.mono HB.o.size)⟩)
theorem aCv {D:Nat} {Sx:Nat→Prop} (k:Int) (cs:Vl) (x:ND) (w:World) (h:aC D Sx w cs x) (hk:k<1∨3<k):Calls prog 45 #[Iz k,.agg cs.toArray] w (aEn ⟨#[]⟩ 2 w):=by
 obtain ⟨a1,l1,c1,a2,l2,c2,rfl⟩:=h.slices;have FO:=Hh (fun wx:World=>sR k wx)
 simp only [(mN hk).1,(mN hk).2] at FO;have b1:=(Br w.heap.size w).alloc (o:=.cells #[Iz x.kind,.bool x.bool,Iz x.num,.string x.text,.slice a1 l1 c1,.slice a2 l2 c2] 28) (Lr _);clear h hk
 go_enter func45,ntmps45
 go_upto_region 1 with fail
 generalize w.alloc _=w1 at b1 ⊢
 go_upto_region 2 with ((with_reducible refine (FO.o _).mono ?_);rintro e w2 ⟨rfl,hb2⟩)
 have b3:=(Br w2.heap.size w2).alloc (o:=.cells #[Iz 0,.nilFunc,.nilFunc,.nilFunc] 119) (Lr _);generalize w2.alloc _=w3 at b3 ⊢;have b23:=hb2.trans (b3.mono hb2.size)
 go_wp2
 refine Ar (v:=.tuple #[.string ⟨#[]⟩,Iz 2]) ?_ rfl ?_
 ·simp [results,results45,go_sem]
 ·exact ⟨rfl,b1.trans (b23.mono b1.size)⟩
theorem AA (k:Int) (F F2 F3:Nat) (s:Bt) (w:World) (P:ND→Int→Prop) (hF:F2=127∨F2=130∨F2=133) (hk:foR k=[Iz k,.func (.func F) #[] #[],.func (.func F2) #[] #[],.func (.func F3) #[] #[]]∧foB k=true)
 (DE:∀wx,Below w.heap.size w wx→Calls prog F2 #[.string s] wx (YT P wx)):Calls prog 52 #[Iz k,.string s] w (YT P w):=by
 have FO:=Hh (fun wx:World=>sR k wx)
 simp only [hk.1,hk.2] at FO;clear hk
 go_enter func52,ntmps52
 go_upto_region 1 with fail
 generalize ae:w.alloc _=w1;obtain ⟨b1,k1⟩:=Al ae;clear ae
 go_upto_region 2 with ((with_reducible refine (FO.o _).mono ?_);rintro e w2 ⟨rfl,hb2⟩)
 generalize ae:w2.alloc _=w3;obtain ⟨b3,k3⟩:=Al ae;clear ae;have b23:=hb2.trans (b3.mono hb2.size);have hr3:=(b23.block _ (Aa k1)).trans k1;have f3:=nD k3;have hB:=b1.trans (b23.mono b1.size);have DE3:=Hh (DE w3 hB);have HB:=Hh hB;have HR3:=Hh hr3;have hg3:=b3.size;have hg23:w.heap.size<w3.heap.size:=Aa hr3;have HZ:=Hh hg23;have f1:=aD hr3;generalize w2.heap.size=g3 at f3 ⊢;clear DE FO k1 k3 b1 hb2 b3 b23 hB hr3 hg3 hg23 f1;unfold YT at DE3;rcases hF with rfl | rfl | rfl <;> (
  go_wp2_with ((with_reducible refine (DE3.o).mono ?_);rintro e w4 ⟨cs,x,er,rfl,hm,hb4,hP⟩;go_loud ((obtain ⟨a1,l1,c1,a2,l2,c2,hcs⟩:=hm.slices);subst hcs;(have hr4:=(hb4.block _ (Aa HR3.o)).trans HR3.o);(have f1:=aD hr4);(have cz:=aA hr4);(have HM:=Hh hm);(have HP:=Hh hP);(have HR4:=Hh hr4);(have HB4:=Hh hb4);clear hm hP hr4 hb4))
  refine Ar (v:=.tuple #[.agg #[Iz x.kind,.bool x.bool,Iz x.num,.string x.text,.slice a1 l1 c1,.slice a2 l2 c2],Iz er]) ?_ rfl ?_
  ·obtain ⟨q0,q1,q2,q3,q4,q5⟩:=aA (dB HR4.o (Iz x.kind) (.bool x.bool) (Iz x.num) (.string x.text) (.slice a1 l1 c1) (.slice a2 l2 c2))
   simp only [dE] at q0 q1 q2 q3 q4 q5;simp [results,results52,go_sem,q0,q1,q2,q3,q4,q5]
  ·have hgs:=aM w4 w.heap.size (Iz x.kind) (.bool x.bool) (Iz x.num) (.string x.text) (.slice a1 l1 c1) (.slice a2 l2 c2)
   have hz:=HZ.o;refine ⟨_,x,er,rfl,(HM.o.same fun b hb=>hgs.block b hb.2 (by intro e;have:=Ab e;omega)).mono fun b hb=>⟨by omega,Ll hb.2 hgs.size⟩,(HB.o.trans (HB4.o.mono HB.o.size)).grown hgs (HB.o.trans (HB4.o.mono HB.o.size)).size (fun k hk=>by cases hk;exact Lr _),HP.o⟩)
theorem aDa (k:Int) (s:Bt) (w:World) (P:ND→Int→Prop) (hk:k<1∨3<k) (hP:P nd0 2):Calls prog 52 #[Iz k,.string s] w (YT P w):=by
 have FO:=Hh (fun wx:World=>sR k wx)
 simp only [(mN hk).1,(mN hk).2] at FO;have HP:=Hh hP;clear hk hP
 go_enter func52,ntmps52
 go_upto_region 1 with fail
 generalize ae:w.alloc _=w1;obtain ⟨b1,k1⟩:=Al ae;clear ae
 go_upto_region 2 with ((with_reducible refine (FO.o _).mono ?_);rintro e w2 ⟨rfl,hb2⟩)
 have b3:=(Br w2.heap.size w2).alloc (o:=.cells #[Iz 0,.nilFunc,.nilFunc,.nilFunc] 119) (Lr _);generalize w2.alloc _=w3 at b3 ⊢;have b23:=hb2.trans (b3.mono hb2.size);have hr3:=(b23.block _ (Aa k1)).trans k1;have HB:=Hh (b1.trans (b23.mono b1.size));have HR3:=Hh hr3;have f1:=aD hr3;have cz:=aA hr3;clear FO k1 b1 hb2 b3 b23 hr3
 go_wp2
 refine Ar (v:=.tuple #[.agg Z6,Iz 2]) ?_ rfl ?_
 ·obtain ⟨q0,q1,q2,q3,q4,q5⟩:=aA (dB HR3.o (Iz 0) (.bool false) (Iz 0) (.string ⟨#[]⟩) (Sn) (Sn))
  simp only [dE] at q0 q1 q2 q3 q4 q5;simp [results,results52,go_sem,q0,q1,q2,q3,q4,q5]
 ·exact ⟨_,nd0,2,rfl,(cC _ _ 0 false 0 ⟨#[]⟩ (by decide)).deeper (by decide),HB.o.grown (aM _ w.heap.size (Iz 0) (.bool false) (Iz 0) (.string ⟨#[]⟩) (Sn) (Sn)) HB.o.size (fun k hk=>by cases hk;exact Lr _),HP.o⟩
end Go.Proofs.YtncdpanfefnjlaaGreatDoor