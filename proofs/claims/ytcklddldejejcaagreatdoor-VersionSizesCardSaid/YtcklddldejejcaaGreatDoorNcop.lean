/- Copies of nodes: the program's own (copiedTexts, copiedItems, copied) and the document's (Copy). -/
import Derived.Test.YtcklddldejejcaaGreatDoorNmap
import Derived.Maps.AppendAt
import Derived.BigFrame
set_option linter.unusedVariables false
set_option linter.unusedSimpArgs false
set_option maxRecDepth 100000
set_option maxHeartbeats 1600000
namespace Go.Proofs.YtcklddldejejcaaGreatDoor
open Go Go.ChangeShapes Go.WideShapes Go.ChangeAt Go.RowKit
def lowN:Nat→ND→Prop
 | 0,_=>True
 | d+1,x=>x.names.length≤1000000∧x.items.length≤1000000∧∀y,y ∈ x.items→lowN d y
theorem lowN_of_valid:∀ (d e:Nat) (x:ND),validN d x=true→lowN e x
 | _,0,_,_=>trivial
 | 0,e+1,_,h=>by cases h
 | d+1,e+1,x,h=>by
  rw [validN_succ,Bool.and_eq_true,List.all_eq_true] at h
  obtain ⟨hf,hv⟩:=h
  unfold flatOk at hf
  simp only [Bool.and_eq_true,Bool.or_eq_true,decide_eq_true_eq] at hf
  obtain ⟨⟨⟨⟨⟨⟨⟨⟨⟨⟨⟨-,-⟩,-⟩,-⟩,-⟩,-⟩,h1⟩,-⟩,h2⟩,h3⟩,-⟩,-⟩:=hf
  refine ⟨?_,by omega,fun y hy=>lowN_of_valid d e y (hv y hy)⟩
  rcases h1 with h1 | h1
  ·omega
  ·rcases h3 with h3 | h3
   ·exact absurd h1 h3
   ·omega
theorem run_append_strs {P:Program} {S:Nat→Prop} (w:World) {t ty e:TypeId} {i:TypeInfo} {v:Value} {ns:List ByteArray} (ht:P.underlying t=some (.slice e)) (hi:P.info? e=some i) (hz:i.zero=some (.string ⟨#[]⟩)) (hs:i.size=1) (hb:i.bytes=16) (h:StrsIn S w v ns) (hl:ns.length≤1000000) :
 ∃v' w',(Builtin.append_ #[t,t] ty #[.slice none 0 0,v]).run P w=.ok v' w'∧w'.ownsRow w.heap.size e 1 v' ns.length (ns.map Value.string)∧w.grownBy w' none:=by
 obtain ⟨ao,cap,rfl,h1,h2,h3⟩:=h
 have hnil:=World.ownsRow_nil w w.heap.size e 1
 cases ao with
 | none=>
  have:ns=[]:=by
   cases ns with
   | nil=>rfl
   | cons s t=>obtain ⟨_,_,h,_⟩:=h3 0 s rfl;cases h
  subst this
  exact ⟨.slice none 0 0,w,by simp [Builtin.append_,run_underlying ht,sizeOf,typeInfo,hi,Builtin.lenOf,Builtin.firstCells,loadCells,loadCellsFrom],hnil,World.grownBy.refl _ _⟩
 | some a=>
  obtain ⟨v',w',hr,g1,g2,_⟩:=run_append_own_at (P:=P) w w.heap.size t ty e i (.string ⟨#[]⟩) 1 16 ht hi hz hs hb rfl (by decide) (.slice none 0 0) 0 [] hnil a ns.length cap (ns.map Value.string) (by simp) (fun j u hu=>by
   rw [List.getElem?_map] at hu
   cases hj:ns[j]? with
   | none=>rw [hj] at hu;cases hu
   | some s=>
    rw [hj] at hu
    obtain rfl:Value.string s=u:=by simpa using hu
    obtain ⟨b,off,e',_,hc,_⟩:=h3 j s hj
    cases e'
    rw [Addr.add_lit];exact hc) (by intro u hu;obtain ⟨s,_,rfl⟩:=List.mem_map.1 hu;rfl) (by unfold maxLen;omega) (by omega) (Lr _)
  exact ⟨v',w',hr,by simpa using g1,g2⟩
theorem wpList_append_strs {P:Program} {S:Nat→Prop} (w:World) {ops:Array Oper} {rest:List Oper} {o:Oper} {a:Act} {Q:Exit→Act→World→Prop} (hgd:Region.wanted o (yielded ops a.tmps)=true) (s x:Operand) (t:TypeId)
 (ho:o.op=.call { callee:=.builtin .append,args:=#[s,x],argTypes:=#[t,t] }) (e:TypeId) (i:TypeInfo) (ht:P.underlying t=some (.slice e)) (hi:P.info? e=some i) (hz:i.zero=some (.string ⟨#[]⟩)) (hs:i.size=1) (hb:i.bytes=16)
 (hs0:a.eval s=.slice none 0 0) (v:Value) (ns:List ByteArray) (hx:a.eval x=v) (hv:StrsIn S w v ns) (hl:ns.length≤1000000)
 (h:∀v' w',w'.ownsRow w.heap.size e 1 v' ns.length (ns.map Value.string)→w.grownBy w' none→wpList P ops Q rest (a.put o.dst v') w'):wpList P ops Q (o::rest) a w:=by
 refine BigFrame.wpList_want hgd fun K hK=>?_
 obtain ⟨v',w',hr,h2,h3⟩:=run_append_strs (P:=P) (ty:=o.type) w ht hi hz hs hb hv hl
 unfold Oper.wp execOp
 simp only [ho,resolve,invoke,builtin,Sem.run_bind,Sem.run_pure,Result.andThen_ok,List.map_toArray,List.map_cons,List.map_nil,hs0,hx,hr]
 exact hK _ _ (h v' w' h2 h3)
def PlainB (w:World) (b:Nat):Prop:=∃cs T,w.heap[b]?=some (.cells cs T (0,0))
def Fr (base:Nat) (w:World) (b:Nat):Prop:=base≤b∧b<w.heap.size∧PlainB w b
theorem Fr.move {base base':Nat} {w w':World} {b:Nat} (h:Fr base w b) (e:w'.heap[b]?=w.heap[b]?) (hb:base'≤base) (hs:w.heap.size≤w'.heap.size):Fr base' w' b:=by
 obtain ⟨h1,h2,cs,T,h3⟩:=h
 exact ⟨by omega,by omega,cs,T,e.trans h3⟩
theorem StrsIn.and {S S':Nat→Prop} {w:World} {v:Value} {ns:List ByteArray} (h:StrsIn S w v ns) (k:StrsIn S' w v ns):StrsIn (fun b=>S b∧S' b) w v ns:=by
 obtain ⟨ao,cap,e,h1,h2,h3⟩:=h
 obtain ⟨ao',cap',e',k1,k2,k3⟩:=k
 rw [e] at e'
 cases e'
 refine ⟨ao,cap,e,h1,h2,fun j s hj=>?_⟩
 obtain ⟨b,off,eq,hS,hc,hs⟩:=h3 j s hj
 obtain ⟨b',off',eq',kS,_,_⟩:=k3 j s hj
 rw [eq] at eq'
 cases eq'
 exact ⟨b,off,eq,⟨hS,kS⟩,hc,hs⟩
theorem NodeIn.and {S S':Nat→Prop} {w:World}:∀ {d:Nat} {cs:List Value} {x:ND},NodeIn d S w cs x→NodeIn d S' w cs x→NodeIn d (fun b=>S b∧S' b) w cs x
 | 0,_,_,h,_=>h.elim
 | d+1,cs,x,h,k=>by
  obtain ⟨vn,vi,e,ht,hn,hi⟩:=h
  obtain ⟨vn',vi',e',_,kn,ki⟩:=k
  rw [e] at e'
  simp only [List.cons.injEq,and_true,true_and] at e'
  obtain ⟨rfl,rfl⟩:=e'
  refine ⟨vn,vi,e,ht,hn.and kn,?_⟩
  obtain ⟨ao,cap,e,h1,h2,h3⟩:=hi
  obtain ⟨ao',cap',e',k1,k2,k3⟩:=ki
  rw [e] at e'
  cases e'
  refine ⟨ao,cap,e,h1,h2,fun j y hj=>?_⟩
  obtain ⟨b,off,cs1,eq,hS,hc,hr⟩:=h3 j y hj
  obtain ⟨b',off',cs2,eq',kS,kc,kr⟩:=k3 j y hj
  rw [eq] at eq'
  cases eq'
  have hcs:cs1=cs2:=by
   apply List.ext_getElem?
   intro f
   have l1:=hr.len
   have l2:=kr.len
   rcases Nat.lt_or_ge f 6 with hf | hf
   ·have a1:=hc f _ (List.getElem?_eq_getElem (by omega))
    have a2:=kc f _ (List.getElem?_eq_getElem (by omega))
    rw [a1] at a2
    rw [List.getElem?_eq_getElem (by omega),List.getElem?_eq_getElem (by omega)]
    exact a2
   ·rw [List.getElem?_eq_none (by omega),List.getElem?_eq_none (by omega)]
  subst hcs
  exact ⟨b,off,cs1,eq,⟨hS,kS⟩,hc,NodeIn.and hr kr⟩
theorem SRow.fr {TS:TypeId} {base:Nat} {w:World} {v:Value} {ns:List ByteArray} (h:SRow TS base w v ns):StrsIn (Fr base w) w v ns:=by
 obtain ⟨h1,h2⟩:=h
 rcases h1.2 with ⟨rfl,h0⟩ | ⟨g,cap,cur,rfl,hb,hg,hnc,hcm,hcs,hcu⟩
 ·have hn:ns=[]:=List.length_eq_zero_iff.1 h0
  subst hn
  exact StrsIn.nil _ _
 ·refine ⟨_,cap,rfl,hnc,hcm,fun j s hj=>⟨g,0,rfl,⟨hb,lt_of_block hg,_,_,hg⟩,?_,h2 s (List.mem_of_getElem? hj)⟩⟩
  have:=h1.cells (g:=g) rfl j (.string s) (by rw [List.getElem?_map,hj];rfl)
  rw [Addr.add_lit] at this;exact this
theorem NRow.fr {TN:TypeId} {d base:Nat} {X:Option Nat} {w:World} {v:Value} {A:List NC} (h:NRow TN d base X w v A) (hp:∀x,x ∈ A→NodeIn d (PlainB w) w x.1 x.2):NodesIn (NodeIn d (Fr base w) w) (Fr base w) w v (nodesOf A):=by
 obtain ⟨h1,h0,h2⟩:=h
 have hl:(nodesOf A).length=A.length:=by simp [nodesOf]
 have h6:∀y,y ∈ A→y.1.length=6:=fun y hy=>(h2 y hy).len
 rcases h1.2 with ⟨rfl,hA0⟩ | ⟨g,cap,cur,rfl,hb,hg,hnc,hcm,hcs,hcu⟩
 ·have hn:A=[]:=List.length_eq_zero_iff.1 hA0
  subst hn
  exact NodesIn.nil _ _ _
 ·refine ⟨_,cap,by rw [hl],by omega,hcm,fun j x hj=>?_⟩
  have hj':j<A.length:=by
   rcases Nat.lt_or_ge j A.length with h' | h'
   ·exact h'
   ·rw [List.getElem?_eq_none (by omega)] at hj;cases hj
  have e:A[j]?=some (A[j].1,A[j].2):=by rw [List.getElem?_eq_getElem hj']
  have hx:x=A[j].2:=by
   rw [nodesOf,List.getElem?_map,e] at hj
   exact (Option.some.inj hj).symm
  subst hx
  refine ⟨g,0,A[j].1,rfl,⟨hb,lt_of_block hg,_,_,hg⟩,fun f u hu=>?_,((h2 _ (List.getElem_mem hj')).and (hp _ (List.getElem_mem hj'))).mono fun b hb=>⟨hb.1.1,hb.1.2.1,hb.2⟩⟩
  have:=h1.cells (g:=g) rfl _ _ (nCells_at h6 e f u hu)
  rw [Addr.add_lit,←Nat.add_assoc] at this;exact this
theorem below_of_grown {w w':World} (h:w.grownBy w' none):Below w.heap.size w w':=⟨h.os,h.tape,h.output,h.size,fun i hi=>h.block i hi (by simp)⟩
def StrsNew (w:World) (ns:List ByteArray) (e:Ending) (w':World):Prop:=∃v,e=.returned v∧StrsIn (Fr w.heap.size w') w' v ns∧v.oneCell'=true∧Below w.heap.size w w'∧SRow 9 w.heap.size w' v ns
theorem StrsIn.one {S:Nat→Prop} {w:World} {v:Value} {ns:List ByteArray} (h:StrsIn S w v ns):v.oneCell'=true:=by
 obtain ⟨a,c,rfl,_⟩:=h;rfl
theorem StrsIn.sizes {S:Nat→Prop} {w:World} {v:Value} {ns:List ByteArray} (h:StrsIn S w v ns):∀s,s ∈ ns→s.size≤maxLen - 2:=by
 intro s hs
 obtain ⟨j,hj,rfl⟩:=List.getElem_of_mem hs
 obtain ⟨a,c,_,_,_,h⟩:=h
 obtain ⟨_,_,_,_,_,h⟩:=h j _ (List.getElem?_eq_getElem hj)
 exact h
theorem ctexts_any {S:Nat→Prop} (v:Value) (ns:List ByteArray) (w:World) (h:StrsIn S w v ns) (hl:ns.length≤1000000):Calls Tryz.prog 77 #[v] w (StrsNew w ns):=by
 obtain ⟨iq,hiq,hy0,hy1,hy2⟩:=infos
 have hus:=Tryz.underlying25
 have HI:=Hh hiq
 have H:=Hh h
 have hsz:=Hh h.sizes
 clear h hiq
 go_enter Tryz.func77,Tryz.ntmps77
 go_wp2_with (refine wpList_append_strs _ rfl (.const (.slice none 0 0)) (.tmp 3) 25 rfl 9 iq hus HI.out hy0 hy1 hy2 rfl v ns rfl H.out hl ?_;intro v' w' hown hgrow)
 go_ret
 have hrow:SRow 9 w.heap.size w' v' ns:=⟨hown,hsz.out⟩
 exact ⟨v',rfl,hrow.fr,hrow.strs.one,below_of_grown hgrow,hrow⟩
def NodeNew (d:Nat) (w:World) (x:ND) (e:Ending) (w':World):Prop:=∃cs,e=.returned (.agg cs.toArray)∧NodeIn d (Fr w.heap.size w') w' cs x∧Below w.heap.size w w'
def ItemsNew (d:Nat) (w:World) (its:List ND) (e:Ending) (w':World):Prop:=∃v,e=.returned v∧NodesIn (NodeIn d (Fr w.heap.size w') w') (Fr w.heap.size w') w' v its∧Below w.heap.size w w'
theorem take_snocN {its:List ND} {j:Nat} {x:ND} (h:its[j]?=some x):its.take (j+1)=its.take j++[x]:=by rw [List.take_add_one,h];rfl
theorem lt_of_some {α:Type} {l:List α} {j:Nat} {x:α} (h:l[j]?=some x):j<l.length:=by
 rcases Nat.lt_or_ge j l.length with h' | h'
 ·exact h'
 ·rw [List.getElem?_eq_none h'] at h;cases h
theorem NodeIn.slices {d:Nat} {S:Nat→Prop} {w:World} {cs:List Value} {x:ND} (h:NodeIn d S w cs x):∃a1 l1 c1 a2 l2 c2,cs=[.int .i64 x.kind,.bool x.bool,.int .i64 x.num,.string x.text,.slice a1 l1 c1,.slice a2 l2 c2]:=by
 cases d with
 | zero=>exact h.elim
 | succ d=>
  obtain ⟨va,vb,rfl,_,⟨a1,c1,rfl,_⟩,⟨a2,c2,rfl,_⟩⟩:=h
  exact ⟨_,_,_,_,_,_,rfl⟩
theorem NodesIn.at {d:Nat} {S:Nat→Prop} {w:World} {ao:Option Addr} {l cap:Nat} {its:List ND} (h:NodesIn (NodeIn d S w) S w (.slice ao l cap) its) {j:Nat} (hj:j<its.length) :
 l=its.length∧l≤cap∧cap≤maxLen∧∃b off x a1 l1 c1 a2 l2 c2,ao=some ⟨b,off,none⟩∧S b∧its[j]?=some x∧NodeIn d S w [.int .i64 x.kind,.bool x.bool,.int .i64 x.num,.string x.text,.slice a1 l1 c1,.slice a2 l2 c2] x ∧
  w.cell? ⟨b,off+j * 6,none⟩=some (.int .i64 x.kind)∧w.cell? ⟨b,off+j * 6+1,none⟩=some (.bool x.bool)∧w.cell? ⟨b,off+j * 6+2,none⟩=some (.int .i64 x.num)∧w.cell? ⟨b,off+j * 6+3,none⟩=some (.string x.text)∧w.cell? ⟨b,off+j * 6+4,none⟩=some (.slice a1 l1 c1)∧w.cell? ⟨b,off+j * 6+5,none⟩=some (.slice a2 l2 c2):=by
 obtain ⟨ao',cap',e,h1,h2,h3⟩:=h
 cases e
 obtain ⟨b,off,cs,rfl,hS,hc,hr⟩:=h3 j _ (List.getElem?_eq_getElem hj)
 obtain ⟨a1,l1,c1,a2,l2,c2,rfl⟩:=hr.slices
 exact ⟨rfl,h1,h2,b,off,its[j],a1,l1,c1,a2,l2,c2,rfl,hS,List.getElem?_eq_getElem hj,hr,hc 0 _ rfl,hc 1 _ rfl,hc 2 _ rfl,hc 3 _ rfl,hc 4 _ rfl,hc 5 _ rfl⟩
theorem Below.grown {w w':World} (hb:Below w.heap.size w w'):w.grownBy w' none:=⟨hb.os,hb.tape,hb.output,hb.size,fun i hi _=>hb.block i hi⟩
theorem NRow.plain {TN:TypeId} {d base:Nat} {X:Option Nat} {w w':World} {v:Value} {A:List NC} {row:Option Nat} (h:NRow TN d base X w v A) (hp:∀x,x ∈ A→NodeIn d (PlainB w) w x.1 x.2) (hg:w.grownBy w' row) (hr:∀r,row=some r→r<base∨v.ownBlock=some r):∀x,x ∈ A→NodeIn d (PlainB w') w' x.1 x.2:=by
 intro x hx
 have e:∀b,(base≤b∧b<w.heap.size∧v.ownBlock ≠ some b∧X ≠ some b)→w'.heap[b]?=w.heap[b]?:=fun b hb=>hg.block b hb.2.1 fun e=>by
  rcases hr b e.symm with hr | hr
  ·omega
  ·exact hb.2.2.1 hr
 exact ((((h.2.2 x hx).and (hp x hx)).same (w':=w') fun b hb=>e b hb.1)).mono fun b hb=>by
  obtain ⟨cs,T,hh⟩:=hb.2
  exact ⟨cs,T,(e b hb.1).trans hh⟩
theorem citems_step {d:Nat} (HC:∀ (S:Nat→Prop) (cs:List Value) (x:ND) (w:World),NodeIn d S w cs x→(∀b,S b→b<w.heap.size)→lowN d x→Calls Tryz.prog 113 #[.agg cs.toArray] w (NodeNew d w x))
 (S:Nat→Prop) (v:Value) (its:List ND) (w:World) (h:NodesIn (NodeIn d S w) S w v its) (hS:∀b,S b→b<w.heap.size) (hl:its.length≤1000000) (hlow:∀y,y ∈ its→lowN d y):Calls Tryz.prog 78 #[v] w (ItemsNew d w its):=by
 obtain ⟨ip,hip,hz0,hz1,hz2⟩:=infon
 have hug:=Tryz.underlying26
 have HI:=Hh hip
 obtain ⟨ao,cap,rfl,hc1,hc2,hc3⟩:=h
 have H:Hid (NodesIn (NodeIn d S w) S w (.slice ao its.length cap) its):=Hh ⟨ao,cap,rfl,hc1,hc2,hc3⟩
 have HCC:=Hh HC
 have HL:=Hh hlow
 have HS:=Hh hS
 unfold maxLen at hc2
 clear hip hc3 HC hlow hS
 go_enter Tryz.func78,Tryz.ntmps78
 go_wp2
 go_loopw [3,8] (fun vi i wr=>∃ (j:Nat) (A:List NC),i=.int .i64 j∧j≤its.length∧NRow 28 d w.heap.size none wr vi A∧nodesOf A=its.take j∧Below w.heap.size w wr∧(∀x,x ∈ A→NodeIn d (PlainB wr) wr x.1 x.2)) (fun _ i _=>its.length - (intOf i).toNat)
 case atStart=>exact ⟨0,[],rfl,Nat.zero_le _,NRow.nil _ _ _ _ _,rfl,Br _ _,fun x hx=>by cases hx⟩
 case round=>
  obtain ⟨j,A,rfl,hj,hrow,hA,hB,hpl⟩:=hrel
  by_cases hlt:j<its.length
  ·have hlt':(j:Int)<(its.length:Int):=by omega
   have hj0:(0:Int)≤(j:Int):=by omega
   obtain ⟨-,-,-,b,off,x,a1,l1,c1,a2,l2,c2,rfl,hSb,hx,hnd,k0,k1,k2,k3,k4,k5⟩:=H.out.at hlt
   have hbw:=HS.out b hSb
   have q0:=(hB.cell (p:=⟨b,off+j * 6,none⟩) hbw).trans k0
   have q1:=(hB.cell (p:=⟨b,off+j * 6+1,none⟩) hbw).trans k1
   have q2:=(hB.cell (p:=⟨b,off+j * 6+2,none⟩) hbw).trans k2
   have q3:=(hB.cell (p:=⟨b,off+j * 6+3,none⟩) hbw).trans k3
   have q4:=(hB.cell (p:=⟨b,off+j * 6+4,none⟩) hbw).trans k4
   have q5:=(hB.cell (p:=⟨b,off+j * 6+5,none⟩) hbw).trans k5
   clear k0 k1 k2 k3 k4 k5
   have HX:=Hh hx
   have HA:=Hh hA
   have hlA:A.length=j:=by
    have:=congrArg List.length hA
    rw [nodesOf,List.length_map,List.length_take] at this
    omega
   have hlA2:A.length<1000000:=by omega
   clear hlA
   have hlow:=HL.out x (List.mem_of_getElem? hx)
   have b1:=(Br wr.heap.size wr).alloc (o:=.cells #[.int .i64 x.kind,.bool x.bool,.int .i64 x.num,.string x.text,.slice a1 l1 c1,.slice a2 l2 c2] 28) (Lr _)
   have hnd1:=hnd.same (w':=wr.alloc (.cells #[.int .i64 x.kind,.bool x.bool,.int .i64 x.num,.string x.text,.slice a1 l1 c1,.slice a2 l2 c2] 28)) fun b hb=>((hB.trans (b1.mono hB.size)).block b (HS.out b hb))
   have hrow1:=hrow.below b1
   have hpl1:=NRow.plain hrow hpl (Below.grown b1) (fun r e=>by cases e)
   have hB1:=hB.trans (b1.mono hB.size)
   have CC:=Hh (HCC.out S _ x _ hnd1 (fun b hb=>Ll (HS.out b hb) hB1.size) hlow)
   clear hx hA hnd hnd1 hrow hB b1 hlow hpl
   go_upto_region 5 with fail
   clear q0 q1 q2 q3 q4 q5
   generalize hW:wr.alloc (.cells #[.int .i64 x.kind,.bool x.bool,.int .i64 x.num,.string x.text,.slice a1 l1 c1,.slice a2 l2 c2] 28)=W1 at hrow1 hB1 CC hpl1 ⊢
   have hbk:W1.heap[wr.heap.size]?=some (.cells #[.int .i64 x.kind,.bool x.bool,.int .i64 x.num,.string x.text,.slice a1 l1 c1,.slice a2 l2 c2] 28 (0,0)):=by rw [←hW];exact Hn _ _
   have cs1:=six_of hbk
   clear hW hbk
   go_upto_region 6 with (first
    | (go_at_call 113;(with_reducible refine (CC.out).mono ?_);rintro e W2 ⟨cs,rfl,hn2,hb2⟩;obtain ⟨a3,l3,c3,a4,l4,c4,rfl⟩:=hn2.slices;(have hrow2:=hrow1.below hb2);(have hpl2:=NRow.plain hrow1 hpl1 (Below.grown hb2) (fun r e=>by cases e));(have hB2:=hB1.trans (hb2.mono hB1.size));(have b3:=(Br W2.heap.size W2).alloc (o:=.cells #[.int .i64 x.kind,.bool x.bool,.int .i64 x.num,.string x.text,.slice a3 l3 c3,.slice a4 l4 c4] 28) (Lr _));(have hrow3:=hrow2.below b3);(have hpl3:=NRow.plain hrow2 hpl2 (Below.grown b3) (fun r e=>by cases e));(have hB3:=hB2.trans (b3.mono hB2.size));(have hn3:=(hn2.same (w':=W2.alloc (.cells #[.int .i64 x.kind,.bool x.bool,.int .i64 x.num,.string x.text,.slice a3 l3 c3,.slice a4 l4 c4] 28)) fun b hb=>b3.block b hb.2.1));(have hone:=hn2.one))
    | (refine wpList_append_lies _ rfl (.tmp 12) (.tmp 15) 26 rfl w.heap.size 28 ip (.agg #[.int .i64 0,.bool false,.int .i64 0,.string ⟨#[]⟩,.slice none 0 0,.slice none 0 0]) 6 88 hug HI.out hz0 hz1 hz2 rfl (by decide) u3 A.length _ rfl hrow3.1 ⟨W2.heap.size,0,none⟩ 1 1 [.int .i64 x.kind,.bool x.bool,.int .i64 x.num,.string x.text,.slice a3 l3 c3,.slice a4 l4 c4] rfl rfl (cells_new _ _ _ _ rfl) hone (by decide) (by unfold maxLen;omega) (by omega) hB3.size _ rfl ?_;intro g8 c8 W8 hown hgrow hat hlt8;clear hrow2 hB2 hpl2))
   have hrow8:=hrow3.push hown hgrow (own_at hat) (fun b e=>by cases e) (hn3.mono fun b hb=>⟨Nat.le_trans hB1.size hb.1,Ll hb.2.1 b3.size,own_lt hrow1.1 hb.1,by simp⟩)
   have hpl8:∀y,y ∈ A++[([.int .i64 x.kind,.bool x.bool,.int .i64 x.num,.string x.text,.slice a3 l3 c3,.slice a4 l4 c4],x)]→NodeIn d (PlainB W8) W8 y.1 y.2:=by
    intro y hy
    rcases List.mem_append.1 hy with hy | hy
    ·exact NRow.plain hrow3 hpl3 hgrow (fun r e=>.inr e) y hy
    ·cases List.mem_singleton.1 hy
     have e8:∀b,Fr W1.heap.size W2 b→W8.heap[b]?=W2.heap[b]?:=fun b hb=>(hgrow.block b (Ll hb.2.1 b3.size) (fun e=>own_lt hrow1.1 hb.1 e.symm)).trans (b3.block b hb.2.1)
     exact (hn2.same e8).mono fun b hb=>(hb.move (base':=0) (e8 b hb) (Nat.zero_le _) (Nat.le_trans b3.size hgrow.size)).2.2
   have hB8:=obelow hB3 hrow3.1 hgrow hB3.size
   clear hrow3 hown hgrow hat hrow1 hB1 hB3 hn3 hn2 hb2 b3 hone cs1 CC hpl1 hpl3
   go_wp2
   go_roundw
   case rel=>
    refine ⟨j+1,_,by go_num,by omega,hrow8,?_,hB8,hpl8⟩
    rw [take_snocN HX.out,←HA.out]
    simp [nodesOf]
   case measure=>simp [intOf];omega
  ·have hlt':¬ (j:Int)<(its.length:Int):=by omega
   have hjl:j=its.length:=by omega
   have HA:=Hh hA
   have HJ:=Hh hjl
   clear hA hjl
   go_wp2
   go_ret
   refine ⟨_,rfl,?_,hB⟩
   have:=hrow.fr hpl
   rw [HA.out,HJ.out,List.take_length] at this
   exact this
theorem ccopy_step {d:Nat} (HC:∀ (S:Nat→Prop) (v:Value) (its:List ND) (w:World),NodesIn (NodeIn d S w) S w v its→(∀b,S b→b<w.heap.size)→its.length≤1000000→(∀y,y ∈ its→lowN d y)→Calls Tryz.prog 78 #[v] w (ItemsNew d w its))
 (S:Nat→Prop) (cs:List Value) (x:ND) (w:World) (h:NodeIn (d+1) S w cs x) (hS:∀b,S b→b<w.heap.size) (hlow:lowN (d+1) x):Calls Tryz.prog 113 #[.agg cs.toArray] w (NodeNew (d+1) w x):=by
 obtain ⟨a1,l1,c1,a2,l2,c2,rfl⟩:=h.slices
 obtain ⟨vn,vi,e,ht,hns,his⟩:=h
 simp only [List.cons.injEq,and_true,true_and] at e
 obtain ⟨rfl,rfl⟩:=e
 obtain ⟨w1,hw1⟩:∃W,W=(w.alloc (.cells #[.int .i64 x.kind,.bool x.bool,.int .i64 x.num,.string x.text,.slice a1 l1 c1,.slice a2 l2 c2] 28)).alloc (.cells #[.int .i64 0,.bool false,.int .i64 0,.string ⟨#[]⟩,.slice none 0 0,.slice none 0 0] 28):=⟨_,rfl⟩
 have hz:(w.alloc (.cells #[.int .i64 x.kind,.bool x.bool,.int .i64 x.num,.string x.text,.slice a1 l1 c1,.slice a2 l2 c2] 28)).heap.size=w.heap.size+1:=by simp
 have b1:Below w.heap.size w w1:=by rw [hw1];exact ((Br _ _).alloc (Lr _) _).alloc (by simp) _
 have hr1:w1.heap[w.heap.size+1]?=some (.cells #[.int .i64 0,.bool false,.int .i64 0,.string ⟨#[]⟩,.slice none 0 0,.slice none 0 0] 28 (0,0)):=by rw [hw1,←hz];exact Hn _ _
 have hb1:w1.heap[w.heap.size]?=some (.cells #[.int .i64 x.kind,.bool x.bool,.int .i64 x.num,.string x.text,.slice a1 l1 c1,.slice a2 l2 c2] 28 (0,0)):=by rw [hw1];exact (Below.heap_alloc _ _ _ (by omega)).trans (Hn _ _)
 have hns1:=hns.same (w':=w1) fun b hb=>b1.block b (hS b hb)
 have CT:=Hh (ctexts_any _ _ w1 hns1 hlow.1)
 have HCC:=Hh HC
 have HL:=Hh hlow
 have HS:=Hh hS
 have HIS:=Hh his
 have cb:=six_of hb1
 have fb:=free_six hb1
 have HR:=Hh hr1
 have HB:=Hh hb1
 have hw1s:w.heap.size+1<w1.heap.size:=lt_of_block hr1
 clear HC hlow hS hns his hns1 hr1 hb1 hz
 go_enter Tryz.func113,Tryz.ntmps113
 go_upto_region 1 with fail
 rw [←hw1]
 clear hw1
 go_upto_region 2 with ((with_reducible refine (CT.out).mono ?_);rintro e w2 ⟨v1,rfl,hv1,hv1o,hb2,-⟩;obtain ⟨a3,c3,rfl,hv1r⟩:=hv1;(have hk2:=(hb2.block _ (lt_of_block HB.out)).trans HB.out);(have f2:=free_six hk2);(have c2':=six_of hk2);clear hk2)
 have hv1:StrsIn (Fr w1.heap.size w2) w2 (.slice a3 x.names.length c3) x.names:=⟨a3,c3,rfl,hv1r⟩
 have hk2:=(hb2.block _ (lt_of_block HB.out)).trans HB.out
 have hk3:=six_set4 hk2 (.slice a3 x.names.length c3)
 have hr2:=(hb2.block _ (lt_of_block HR.out)).trans HR.out
 have hoth:∀b,b ≠ w.heap.size→(w2.setCell ⟨w.heap.size,4,none⟩ (.slice a3 x.names.length c3)).heap[b]?=w2.heap[b]?:=fun b hb=>heap_setCell_other w2 ⟨w.heap.size,4,none⟩ b _ hb
 have hsz3:(w2.setCell ⟨w.heap.size,4,none⟩ (.slice a3 x.names.length c3)).heap.size=w2.heap.size:=by simp
 have hr3:=(hoth (w.heap.size+1) (by omega)).trans hr2
 have hv3:=hv1.same fun b hb=>hoth b (by have:=hb.1;omega)
 have hsame:∀b,S b→(w2.setCell ⟨w.heap.size,4,none⟩ (.slice a3 x.names.length c3)).heap[b]?=w.heap[b]?:=fun b hb=>(hoth b (by have:=HS.out b hb;omega)).trans ((hb2.block b (by have:=HS.out b hb;omega)).trans (b1.block b (HS.out b hb)))
 have his3:=HIS.out.same hsame fun cs y q=>q.same hsame
 have B3:Below w.heap.size w (w2.setCell ⟨w.heap.size,4,none⟩ (.slice a3 x.names.length c3)):=(b1.trans (hb2.mono b1.size)).setCell (Lr _) _
 obtain ⟨w3,hw3⟩:∃W,W=w2.setCell ⟨w.heap.size,4,none⟩ (.slice a3 x.names.length c3):=⟨_,rfl⟩
 rw [←hw3] at hk3 hsz3 hr3 hv3 hsame his3 B3
 have hoth3:∀b,b ≠ w.heap.size→w3.heap[b]?=w2.heap[b]?:=by rw [hw3];exact hoth
 rw [←hw3]
 have CI:=Hh (HCC.out _ _ _ w3 his3 (fun b hb=>by have:=HS.out b hb;have:=hb2.size;omega) HL.out.2.1 HL.out.2.2)
 have c3':=six_of hk3
 have HK:=Hh hk3
 have HR3:=Hh hr3
 have hw2s:=hb2.size
 clear hoth his3 hk3 hk2 hr2 hr3 hw3 hsame hv1 hv1r f2 c2' cb fb hv1o HR HB CT HCC HIS b1 hb2
 go_upto_region 3 with ((with_reducible refine (CI.out).mono ?_);rintro e w4 ⟨v2,rfl,hv2,hb4⟩;obtain ⟨a4,c4,rfl,hv2r⟩:=hv2;(have hk4:=(hb4.block _ (lt_of_block HK.out)).trans HK.out);(have f4:=free_six hk4);(have c4':=six_of hk4);clear hk4)
 have hv2:NodesIn (NodeIn d (Fr w3.heap.size w4) w4) (Fr w3.heap.size w4) w4 (.slice a4 x.items.length c4) x.items:=⟨a4,c4,rfl,hv2r⟩
 have hk4:=(hb4.block _ (lt_of_block HK.out)).trans HK.out
 have hk5:=six_set5 hk4 (.slice a4 x.items.length c4)
 have hr4:=(hb4.block _ (lt_of_block HR3.out)).trans HR3.out
 have hoth:∀b,b ≠ w.heap.size→(w4.setCell ⟨w.heap.size,5,none⟩ (.slice a4 x.items.length c4)).heap[b]?=w4.heap[b]?:=fun b hb=>heap_setCell_other w4 ⟨w.heap.size,5,none⟩ b _ hb
 have hsz5:(w4.setCell ⟨w.heap.size,5,none⟩ (.slice a4 x.items.length c4)).heap.size=w4.heap.size:=by simp
 have hr5:=(hoth (w.heap.size+1) (by omega)).trans hr4
 have hb4s:=hb4.size
 have hv5:=(hv3.same fun b hb=>hb4.block b (by have:=hb.2.1;omega)).same fun b hb=>hoth b (by have:=hb.1;omega)
 have hfr1:∀b,Fr w1.heap.size w2 b→(w4.setCell ⟨w.heap.size,5,none⟩ (.slice a4 x.items.length c4)).heap[b]?=w2.heap[b]?:=fun b hb=>(hoth b (by have:=hb.1;omega)).trans ((hb4.block b (by have:=hb.2.1;omega)).trans (hoth3 b (by have:=hb.1;omega)))
 have hfr2:∀b,Fr w3.heap.size w4 b→(w4.setCell ⟨w.heap.size,5,none⟩ (.slice a4 x.items.length c4)).heap[b]?=w4.heap[b]?:=fun b hb=>hoth b (by have:=hb.1;omega)
 have hi5:=hv2.same (w':=w4.setCell ⟨w.heap.size,5,none⟩ (.slice a4 x.items.length c4)) (R':=NodeIn d (Fr w3.heap.size w4) (w4.setCell ⟨w.heap.size,5,none⟩ (.slice a4 x.items.length c4))) (fun b hb=>hfr2 b hb) fun cs y q=>q.same fun b hb=>hfr2 b hb
 have B5:Below w.heap.size w (w4.setCell ⟨w.heap.size,5,none⟩ (.slice a4 x.items.length c4)):=(B3.trans (hb4.mono B3.size)).setCell (Lr _) _
 obtain ⟨w5,hw5⟩:∃W,W=w4.setCell ⟨w.heap.size,5,none⟩ (.slice a4 x.items.length c4):=⟨_,rfl⟩
 rw [←hw5] at hk5 hsz5 hr5 hv5 hi5 B5 hfr1 hfr2
 rw [←hw5]
 have c5':=six_of hk5
 have f5:=free_six hr5
 have d5:=six_of hr5
 have hne:¬w.heap.size+1=w.heap.size:=by omega
 have hne2:¬w.heap.size=w.heap.size+1:=by omega
 have HR5:=Hh hr5
 have HV5:=Hh hv5
 have HI5:=Hh hi5
 have HF1:=Hh hfr1
 have HF2:=Hh hfr2
 clear hoth hk4 hk5 hr4 hr5 hw5 hv2 hv2r f4 c4' CI HK HR3 hb4 hv3 hv5 hi5 hoth3 hfr1 hfr2
 go_wp2
 have hput:=six_put HR5.out (.int .i64 x.kind) (.bool x.bool) (.int .i64 x.num) (.string x.text) (.slice a3 x.names.length c3) (.slice a4 x.items.length c4)
 have hgs:=grown_set6 w5 (w.heap.size+1) (.int .i64 x.kind) (.bool x.bool) (.int .i64 x.num) (.string x.text) (.slice a3 x.names.length c3) (.slice a4 x.items.length c4)
 have hgb:∀b,b ≠ w.heap.size+1→b<w5.heap.size→(set6 w5 (w.heap.size+1) (.int .i64 x.kind) (.bool x.bool) (.int .i64 x.num) (.string x.text) (.slice a3 x.names.length c3) (.slice a4 x.items.length c4)).heap[b]?=w5.heap[b]?:=fun b hb hl=>hgs.block b hl (by intro e;exact hb (Option.some.inj e))
 have hgz:=hgs.size
 refine bodyPost_ret (v:=.agg #[.int .i64 x.kind,.bool x.bool,.int .i64 x.num,.string x.text,.slice a3 x.names.length c3,.slice a4 x.items.length c4]) ?_ ?_ ?_
 rotate_left
 ·rfl
 ·refine ⟨[.int .i64 x.kind,.bool x.bool,.int .i64 x.num,.string x.text,.slice a3 x.names.length c3,.slice a4 x.items.length c4],rfl,⟨_,_,rfl,ht,?_,?_⟩,?_⟩
  ·exact (HV5.out.same fun b hb=>hgb b (by have:=hb.1;omega) (by have:=hb.2.1;omega)).mono fun b hb=>hb.move ((hgb b (by have:=hb.1;omega) (by have:=hb.2.1;omega)).trans (HF1.out b hb)) (by omega) (Nat.le_trans (by omega) hgz)
  ·exact (HI5.out.same (fun b hb=>hgb b (by have:=hb.1;omega) (by have:=hb.2.1;omega)) fun cs y q=>q.same fun b hb=>hgb b (by have:=hb.1;omega) (by have:=hb.2.1;omega)).mono (fun b hb=>hb.move ((hgb b (by have:=hb.1;omega) (by have:=hb.2.1;omega)).trans (HF2.out b hb)) (by omega) (Nat.le_trans (by omega) hgz)) fun cs y q=>q.mono fun b hb=>hb.move ((hgb b (by have:=hb.1;omega) (by have:=hb.2.1;omega)).trans (HF2.out b hb)) (by omega) (Nat.le_trans (by omega) hgz)
  ·exact ⟨hgs.os.trans B5.os,hgs.tape.trans B5.tape,hgs.output.trans B5.output,Nat.le_trans B5.size hgs.size,fun i hi=>(hgb i (by omega) (by omega)).trans (B5.block i hi)⟩
 ·obtain ⟨q0,q1,q2,q3,q4,q5⟩:=six_of hput
  simp only [set6] at q0 q1 q2 q3 q4 q5
  simp [results,Tryz.results113,go_sem,q0,q1,q2,q3,q4,q5]
theorem ccopy_any:∀ (d:Nat) (S:Nat→Prop) (cs:List Value) (x:ND) (w:World),NodeIn d S w cs x→(∀b,S b→b<w.heap.size)→lowN d x→Calls Tryz.prog 113 #[.agg cs.toArray] w (NodeNew d w x)
 | 0,S,cs,x,w,h,_,_=>h.elim
 | d+1,S,cs,x,w,h,hS,hl=>ccopy_step (fun S v its w h hS hl hlow=>citems_step (fun S cs x w h hS hl=>ccopy_any d S cs x w h hS hl) S v its w h hS hl hlow) S cs x w h hS hl
theorem citems_any (d:Nat) (S:Nat→Prop) (v:Value) (its:List ND) (w:World) (h:NodesIn (NodeIn d S w) S w v its) (hS:∀b,S b→b<w.heap.size) (hl:its.length≤1000000) (hlow:∀y,y ∈ its→lowN d y):Calls Tryz.prog 78 #[v] w (ItemsNew d w its):=
 citems_step (fun S cs x w h hS hl=>ccopy_any d S cs x w h hS hl) S v its w h hS hl hlow
end Go.Proofs.YtcklddldejejcaaGreatDoor