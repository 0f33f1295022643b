/- Nodes as a walk reads them: a node as data, its six cells, slices of strings and of nodes; where its blocks lie is told by a predicate. For every program. -/
import Derived.Test.YtdppdonaojdceaaGreatDoorPkit
import Derived.Lib.ValidLaws
import Derived.Maps.OwnSet
import Derived.Maps.Own
import Derived.Maps.OwnOps
set_option linter.unusedVariables false
set_option linter.unusedSimpArgs false
namespace Go.Proofs.YtdppdonaojdceaaGreatDoor
open Go Go.RowKit
inductive ND where
 | mk (kind:Int) (bool:Bool) (num:Int) (text:ByteArray) (names:List ByteArray) (items:List ND)
namespace ND
def kind:ND→Int | .mk k _ _ _ _ _=>k
def bool:ND→Bool | .mk _ b _ _ _ _=>b
def num:ND→Int | .mk _ _ n _ _ _=>n
def text:ND→ByteArray | .mk _ _ _ t _ _=>t
def names:ND→List ByteArray | .mk _ _ _ _ ns _=>ns
def items:ND→List ND | .mk _ _ _ _ _ its=>its
end ND
def StrsIn (S:Nat→Prop) (w:World) (v:Value) (ns:List ByteArray):Prop:=
 ∃ao cap,v=.slice ao ns.length cap∧ns.length≤cap∧cap≤maxLen∧∀j s,ns[j]?=some s→∃b off,ao=some ⟨b,off,none⟩∧S b∧w.cell? ⟨b,off+j,none⟩=some (.string s)∧s.size≤maxLen - 2
def NodesIn (R:List Value→ND→Prop) (S:Nat→Prop) (w:World) (v:Value) (its:List ND):Prop:=
 ∃ao cap,v=.slice ao its.length cap∧its.length≤cap∧cap≤maxLen∧∀j x,its[j]?=some x→∃b off cs,ao=some ⟨b,off,none⟩∧S b∧(∀f u,cs[f]?=some u→w.cell? ⟨b,off+j * 6+f,none⟩=some u)∧R cs x
def NodeIn:Nat→(Nat→Prop)→World→List Value→ND→Prop
 | 0,_,_,_,_=>False
 | d+1,S,w,cs,x=>∃vn vi,cs=[.int .i64 x.kind,.bool x.bool,.int .i64 x.num,.string x.text,vn,vi]∧x.text.size≤maxLen - 2∧StrsIn S w vn x.names∧NodesIn (NodeIn d S w) S w vi x.items
section
variable {S S':Nat→Prop} {w w':World}
theorem StrsIn.same {v:Value} {ns:List ByteArray} (h:StrsIn S w v ns) (hb:∀b,S b→w'.heap[b]?=w.heap[b]?):StrsIn S w' v ns:=by
 obtain ⟨ao,cap,h1,h2,h3,h4⟩:=h
 refine ⟨ao,cap,h1,h2,h3,fun j s hj=>?_⟩
 obtain ⟨b,off,e,hS,hc,hs⟩:=h4 j s hj
 exact ⟨b,off,e,hS,by rw [cell_same (hb b hS)];exact hc,hs⟩
theorem StrsIn.mono {v:Value} {ns:List ByteArray} (h:StrsIn S w v ns) (hS:∀b,S b→S' b):StrsIn S' w v ns:=by
 obtain ⟨ao,cap,h1,h2,h3,h4⟩:=h
 refine ⟨ao,cap,h1,h2,h3,fun j s hj=>?_⟩
 obtain ⟨b,off,e,hb,hc,hs⟩:=h4 j s hj
 exact ⟨b,off,e,hS b hb,hc,hs⟩
theorem NodesIn.same {R R':List Value→ND→Prop} {v:Value} {its:List ND} (h:NodesIn R S w v its) (hb:∀b,S b→w'.heap[b]?=w.heap[b]?) (hR:∀cs x,R cs x→R' cs x):NodesIn R' S w' v its:=by
 obtain ⟨ao,cap,h1,h2,h3,h4⟩:=h
 refine ⟨ao,cap,h1,h2,h3,fun j x hj=>?_⟩
 obtain ⟨b,off,cs,e,hS,hc,hr⟩:=h4 j x hj
 exact ⟨b,off,cs,e,hS,fun f u hu=>by rw [cell_same (hb b hS)];exact hc f u hu,hR cs x hr⟩
theorem NodesIn.mono {R R':List Value→ND→Prop} {v:Value} {its:List ND} (h:NodesIn R S w v its) (hS:∀b,S b→S' b) (hR:∀cs x,R cs x→R' cs x):NodesIn R' S' w v its:=by
 obtain ⟨ao,cap,h1,h2,h3,h4⟩:=h
 refine ⟨ao,cap,h1,h2,h3,fun j x hj=>?_⟩
 obtain ⟨b,off,cs,e,hb,hc,hr⟩:=h4 j x hj
 exact ⟨b,off,cs,e,hS b hb,hc,hR cs x hr⟩
theorem NodeIn.same:∀ {d:Nat} {cs:List Value} {x:ND},NodeIn d S w cs x→(∀b,S b→w'.heap[b]?=w.heap[b]?)→NodeIn d S w' cs x
 | 0,_,_,h,_=>h
 | d+1,cs,x,h,hb=>by
  obtain ⟨vn,vi,h1,h2,h3,h4⟩:=h
  exact ⟨vn,vi,h1,h2,h3.same hb,h4.same hb fun cs x h=>NodeIn.same h hb⟩
theorem NodeIn.mono:∀ {d:Nat} {cs:List Value} {x:ND},NodeIn d S w cs x→(∀b,S b→S' b)→NodeIn d S' w cs x
 | 0,_,_,h,_=>h
 | d+1,cs,x,h,hS=>by
  obtain ⟨vn,vi,h1,h2,h3,h4⟩:=h
  exact ⟨vn,vi,h1,h2,h3.mono hS,h4.mono hS fun cs x h=>NodeIn.mono h hS⟩
theorem NodeIn.deeper:∀ {d d':Nat} {cs:List Value} {x:ND},d≤d'→NodeIn d S w cs x→NodeIn d' S w cs x
 | 0,_,_,_,_,h=>h.elim
 | d+1,0,_,_,hd,_=>by omega
 | d+1,d'+1,cs,x,hd,h=>by
  obtain ⟨vn,vi,h1,h2,h3,h4⟩:=h
  exact ⟨vn,vi,h1,h2,h3,h4.mono (fun _ h=>h) fun cs x h=>NodeIn.deeper (by omega) h⟩
theorem NodeIn.form {d:Nat} {cs:List Value} {x:ND} (h:NodeIn d S w cs x):∃vn vi,cs=[.int .i64 x.kind,.bool x.bool,.int .i64 x.num,.string x.text,vn,vi]:=by
 cases d with
 | zero=>exact h.elim
 | succ d=>obtain ⟨vn,vi,h1,_⟩:=h;exact ⟨vn,vi,h1⟩
theorem NodeIn.len {d:Nat} {cs:List Value} {x:ND} (h:NodeIn d S w cs x):cs.length=6:=by
 obtain ⟨vn,vi,rfl⟩:=h.form
 rfl
theorem StrsIn.nil (S:Nat→Prop) (w:World):StrsIn S w (.slice none 0 0) []:=⟨none,0,rfl,Lr _,Nat.zero_le _,fun j s h=>by simp at h⟩
theorem NodesIn.nil (R:List Value→ND→Prop) (S:Nat→Prop) (w:World):NodesIn R S w (.slice none 0 0) []:=⟨none,0,rfl,Lr _,Nat.zero_le _,fun j s h=>by simp at h⟩
end
def nd0:ND:=.mk 0 false 0 ⟨#[]⟩ [] []
theorem node_leaf (S:Nat→Prop) (w:World) (k:Int) (b:Bool) (n:Int) (t:ByteArray) (ht:t.size≤maxLen - 2):NodeIn 1 S w [.int .i64 k,.bool b,.int .i64 n,.string t,.slice none 0 0,.slice none 0 0] (.mk k b n t [] []):=
 ⟨_,_,rfl,ht,StrsIn.nil S w,NodesIn.nil _ S w⟩
def SRow (TS:TypeId) (base:Nat) (w:World) (v:Value) (ns:List ByteArray):Prop:=
 w.ownsRow base TS 1 v ns.length (ns.map Value.string)∧∀s,s ∈ ns→s.size≤maxLen - 2
theorem SRow.nil (TS:TypeId) (base:Nat) (w:World):SRow TS base w (.slice none 0 0) []:=⟨World.ownsRow_nil w _ _ _,fun x hx=>by cases hx⟩
theorem SRow.kept {TS:TypeId} {base:Nat} {w w':World} {v:Value} {ns:List ByteArray} {row:Option Nat} (h:SRow TS base w v ns) (hg:w.grownBy w' row) (hr:v.ownBlock=none∨v.ownBlock ≠ row):SRow TS base w' v ns:=⟨h.1.kept hg hr,h.2⟩
theorem SRow.push {TS:TypeId} {base:Nat} {w w2:World} {v v':Value} {ns:List ByteArray} {s:ByteArray} (h:SRow TS base w v ns) (hown:w2.ownsRow base TS 1 v' (ns.length+1) (ns.map Value.string++[.string s])) (hs:s.size≤maxLen - 2):SRow TS base w2 v' (ns++[s]):=by
 refine ⟨by rw [Lg,List.map_append];exact hown,fun x hx=>?_⟩
 rcases List.mem_append.1 hx with hx | hx
 ·exact h.2 x hx
 ·cases List.mem_singleton.1 hx;exact hs
theorem SRow.strs {TS:TypeId} {base:Nat} {w:World} {v:Value} {ns:List ByteArray} (h:SRow TS base w v ns):StrsIn (fun b=>base≤b∧b<w.heap.size) w v ns:=by
 obtain ⟨h1,h2⟩:=h
 rcases h1.2 with ⟨rfl,h0⟩ | ⟨g,cap,cur,rfl,hb,hg,hnc,hcm,hcs,hcu⟩
 ·have hn:ns=[]:=List.length_eq_zero_iff.1 h0
  subst hn
  exact StrsIn.nil _ _
 ·refine ⟨_,cap,rfl,hnc,hcm,fun j s hj=>⟨g,0,rfl,⟨hb,lt_of_block hg⟩,?_,h2 s (List.mem_of_getElem? hj)⟩⟩
  have:=h1.cells (g:=g) rfl j (.string s) (by rw [List.getElem?_map,hj];rfl)
  rw [Addr.add_lit] at this;exact this
abbrev NC:=List Value × ND
def nCells (A:List NC):List Value:=A.flatMap fun x=>x.1
def nodesOf (A:List NC):List ND:=A.map fun x=>x.2
theorem nCells_append (a b:List NC):nCells (a++b)=nCells a++nCells b:=by simp [nCells]
theorem nCells_at:∀ {A:List NC} {j:Nat} {cs:List Value} {x:ND},(∀y,y ∈ A→y.1.length=6)→A[j]?=some (cs,x)→∀f u,cs[f]?=some u→(nCells A)[j * 6+f]?=some u
 | [],_,_,_,_,h,_,_,_=>by simp at h
 | y::t,0,cs,x,hl,h,f,u,hu=>by
  simp at h
  subst h
  have hf:f<cs.length:=by
   rcases Nat.lt_or_ge f cs.length with h' | h'
   ·exact h'
   ·rw [List.getElem?_eq_none h'] at hu;cases hu
  have e:nCells ((cs,x)::t)=cs++nCells t:=by simp [nCells]
  rw [e,Nat.zero_mul,Nat.zero_add,List.getElem?_append_left hf]
  exact hu
 | y::t,j+1,cs,x,hl,h,f,u,hu=>by
  have ih:=nCells_at (A:=t) (j:=j) (fun z hz=>hl z (by simp [hz])) (by simpa using h) f u hu
  have e:nCells (y::t)=y.1++nCells t:=by simp [nCells]
  have hy:=hl y (by simp)
  rw [e,List.getElem?_append_right (by omega),hy,show (j+1) * 6+f - 6=j * 6+f by omega]
  exact ih
def NRow (TN:TypeId) (d base:Nat) (X:Option Nat) (w:World) (v:Value) (A:List NC):Prop:=
 w.ownsRow base TN 6 v A.length (nCells A)∧(∀b,X=some b→v.ownBlock ≠ some b)∧∀x,x ∈ A→NodeIn d (fun b=>base≤b∧b<w.heap.size∧v.ownBlock ≠ some b∧X ≠ some b) w x.1 x.2
theorem NRow.nil (TN:TypeId) (d base:Nat) (X:Option Nat) (w:World):NRow TN d base X w (.slice none 0 0) []:=⟨World.ownsRow_nil w _ _ _,fun b _ e=>by simp [Value.ownBlock] at e,fun x hx=>by cases hx⟩
theorem NRow.kept {TN:TypeId} {d base:Nat} {X X':Option Nat} {w w':World} {v:Value} {A:List NC} {row:Option Nat} (h:NRow TN d base X w v A) (hg:w.grownBy w' row) (hr:∀r,row=some r→r<base∨X=some r) (hX:X'=X∨∀b,X'=some b→w.heap.size≤b):NRow TN d base X' w' v A:=by
 obtain ⟨h1,h0,h2⟩:=h
 refine ⟨h1.kept hg ?_,?_,fun x hx=>?_⟩
 ·cases e:v.ownBlock with
  | none=>exact .inl rfl
  | some b=>
   refine .inr fun e'=>?_
   have:=(h1.lt b e).1
   rcases hr b e'.symm with hr | hr
   ·omega
   ·exact h0 b hr e
 ·intro b hb e
  rcases hX with rfl | hX
  ·exact h0 b hb e
  ·have:=hX b hb
   have:=(h1.lt b e).2
   omega
 ·refine ((h2 x hx).same (w':=w') fun b hb=>hg.block b hb.2.1 fun e=>?_).mono fun b hb=>⟨hb.1,Ll hb.2.1 hg.size,hb.2.2.1,fun e=>?_⟩
  ·rcases hr b e.symm with hr | hr
   ·omega
   ·exact hb.2.2.2 hr
  ·rcases hX with rfl | hX
   ·exact hb.2.2.2 e
   ·have:=hX b e
    omega
theorem NRow.push {TN:TypeId} {d base:Nat} {X:Option Nat} {w w2:World} {v v':Value} {A:List NC} {cs:List Value} {x:ND} (h:NRow TN d base X w v A)
 (hown:w2.ownsRow base TN 6 v' (A.length+1) (nCells A++cs)) (hg:w.grownBy w2 v.ownBlock) (hat:v'.ownBlock=v.ownBlock∨∀b,v'.ownBlock=some b→w.heap.size≤b) (hXw:∀b,X=some b→b<w.heap.size)
 (hp:NodeIn d (fun b=>base≤b∧b<w.heap.size∧v.ownBlock ≠ some b∧X ≠ some b) w cs x):NRow TN d base X w2 v' (A++[(cs,x)]):=by
 obtain ⟨h1,h0,h2⟩:=h
 have key:∀ (cs:List Value) (x:ND),NodeIn d (fun b=>base≤b∧b<w.heap.size∧v.ownBlock ≠ some b∧X ≠ some b) w cs x→NodeIn d (fun b=>base≤b∧b<w2.heap.size∧v'.ownBlock ≠ some b∧X ≠ some b) w2 cs x:=by
  intro cs x q
  refine (q.same (w':=w2) fun b hb=>hg.block b hb.2.1 fun e=>hb.2.2.1 e.symm).mono fun b hb=>⟨hb.1,Ll hb.2.1 hg.size,fun e'=>?_,hb.2.2.2⟩
  rcases hat with ha | ha
  ·rw [ha] at e';exact hb.2.2.1 e'
  ·have:=ha b e'
   omega
 refine ⟨?_,?_,fun y hy=>?_⟩
 ·rw [Lg,nCells_append]
  simpa [nCells] using hown
 ·intro b hb e
  rcases hat with ha | ha
  ·rw [ha] at e;exact h0 b hb e
  ·have:=ha b e
   have:=hXw b hb
   omega
 ·rcases List.mem_append.1 hy with hy | hy
  ·exact key _ _ (h2 y hy)
  ·cases List.mem_singleton.1 hy
   exact key _ _ hp
theorem NRow.nodes {TN:TypeId} {d base:Nat} {X:Option Nat} {w:World} {v:Value} {A:List NC} (h:NRow TN d base X w v A):NodesIn (NodeIn d (fun b=>base≤b∧b<w.heap.size) w) (fun b=>base≤b∧b<w.heap.size) w v (nodesOf A):=by
 obtain ⟨h1,h0,h2⟩:=h
 have hl:(nodesOf A).length=A.length:=by simp [nodesOf]
 have h6:∀y,y ∈ A→y.1.length=6:=fun y hy=>(h2 y hy).len
 rcases h1.2 with ⟨rfl,hA0⟩ | ⟨g,cap,cur,rfl,hb,hg,hnc,hcm,hcs,hcu⟩
 ·have hn:A=[]:=List.length_eq_zero_iff.1 hA0
  subst hn
  exact NodesIn.nil _ _ _
 ·refine ⟨_,cap,by rw [hl],by omega,hcm,fun j x hj=>?_⟩
  have hj':j<A.length:=by
   rcases Nat.lt_or_ge j A.length with h' | h'
   ·exact h'
   ·rw [List.getElem?_eq_none (by omega)] at hj;cases hj
  have e:A[j]?=some (A[j].1,A[j].2):=by rw [List.getElem?_eq_getElem hj']
  have hx:x=A[j].2:=by
   rw [nodesOf,List.getElem?_map,e] at hj
   exact (Option.some.inj hj).symm
  subst hx
  refine ⟨g,0,A[j].1,rfl,⟨hb,lt_of_block hg⟩,fun f u hu=>?_,(h2 _ (List.getElem_mem hj')).mono fun b hb=>⟨hb.1,hb.2.1⟩⟩
  have:=h1.cells (g:=g) rfl _ _ (nCells_at h6 e f u hu)
  rw [Addr.add_lit,←Nat.add_assoc] at this;exact this
theorem heap_set {w:World} {g j:Nat} {cs:Array Value} {T:TypeId} (h:w.heap[g]?=some (.cells cs T (0,0))) (x:Value):(w.setCell ⟨g,j,none⟩ x).heap[g]?=some (.cells (cs.setIfInBounds j x) T (0,0)):=by
 have hlt:=lt_of_block h
 have h':w.heap[g]=.cells cs T (0,0):=by simpa [Array.getElem?_eq_getElem hlt] using h
 show (w.heap.modify g _)[g]?=_
 rw [Array.getElem?_eq_getElem (by simpa using hlt),Array.getElem_modify_self,h']
 rfl
section
variable {w:World} {g:Nat} {a b c d e f:Value} {T:TypeId}
theorem six_of (h:w.heap[g]?=some (.cells #[a,b,c,d,e,f] T (0,0))):w.cell? ⟨g,0,none⟩=some a∧w.cell? ⟨g,1,none⟩=some b∧w.cell? ⟨g,2,none⟩=some c∧w.cell? ⟨g,3,none⟩=some d∧w.cell? ⟨g,4,none⟩=some e∧w.cell? ⟨g,5,none⟩=some f:=by
 simp [World.cell?,h]
theorem free_six (h:w.heap[g]?=some (.cells #[a,b,c,d,e,f] T (0,0))):w.frozen? ⟨g,0,none⟩=false∧w.frozen? ⟨g,1,none⟩=false∧w.frozen? ⟨g,2,none⟩=false∧w.frozen? ⟨g,3,none⟩=false∧w.frozen? ⟨g,4,none⟩=false∧w.frozen? ⟨g,5,none⟩=false:=by
 simp [World.frozen?,h]
theorem six_set0 (h:w.heap[g]?=some (.cells #[a,b,c,d,e,f] T (0,0))) (x:Value):(w.setCell ⟨g,0,none⟩ x).heap[g]?=some (.cells #[x,b,c,d,e,f] T (0,0)):=heap_set h x
theorem six_set1 (h:w.heap[g]?=some (.cells #[a,b,c,d,e,f] T (0,0))) (x:Value):(w.setCell ⟨g,1,none⟩ x).heap[g]?=some (.cells #[a,x,c,d,e,f] T (0,0)):=heap_set h x
theorem six_set2 (h:w.heap[g]?=some (.cells #[a,b,c,d,e,f] T (0,0))) (x:Value):(w.setCell ⟨g,2,none⟩ x).heap[g]?=some (.cells #[a,b,x,d,e,f] T (0,0)):=heap_set h x
theorem six_set3 (h:w.heap[g]?=some (.cells #[a,b,c,d,e,f] T (0,0))) (x:Value):(w.setCell ⟨g,3,none⟩ x).heap[g]?=some (.cells #[a,b,c,x,e,f] T (0,0)):=heap_set h x
theorem six_set4 (h:w.heap[g]?=some (.cells #[a,b,c,d,e,f] T (0,0))) (x:Value):(w.setCell ⟨g,4,none⟩ x).heap[g]?=some (.cells #[a,b,c,d,x,f] T (0,0)):=heap_set h x
theorem six_set5 (h:w.heap[g]?=some (.cells #[a,b,c,d,e,f] T (0,0))) (x:Value):(w.setCell ⟨g,5,none⟩ x).heap[g]?=some (.cells #[a,b,c,d,e,x] T (0,0)):=heap_set h x
def set6 (w:World) (g:Nat) (a b c d e f:Value):World:=(((((w.setCell ⟨g,0,none⟩ a).setCell ⟨g,1,none⟩ b).setCell ⟨g,2,none⟩ c).setCell ⟨g,3,none⟩ d).setCell ⟨g,4,none⟩ e).setCell ⟨g,5,none⟩ f
theorem six_put (h:w.heap[g]?=some (.cells #[a,b,c,d,e,f] T (0,0))) (a' b' c' d' e' f':Value):(set6 w g a' b' c' d' e' f').heap[g]?=some (.cells #[a',b',c',d',e',f'] T (0,0)):=
 six_set5 (six_set4 (six_set3 (six_set2 (six_set1 (six_set0 h a') b') c') d') e') f'
theorem grown_set (w:World) (g j:Nat) (v:Value):w.grownBy (w.setCell ⟨g,j,none⟩ v) (some g):=
 ⟨rfl,rfl,rfl,by simp,fun i hi hne=>heap_setCell_other w ⟨g,j,none⟩ i v (show i ≠ g from fun e=>hne (by rw [e]))⟩
theorem grown_set6 (w:World) (g:Nat) (a b c d e f:Value):w.grownBy (set6 w g a b c d e f) (some g):=
 gtrans (gtrans (gtrans (gtrans (gtrans (grown_set w g 0 a) (grown_set _ g 1 b)) (grown_set _ g 2 c)) (grown_set _ g 3 d)) (grown_set _ g 4 e)) (grown_set _ g 5 f)
end
theorem ret_node {f:Func} {Q:Ending→World→Prop} {a:Act} {w:World} {g c s:Nat} {x0 x1 x2 x3 x4 x5 v y0 y1 y2 y3 y4 y5:Value} (h:w.heap[g]?=some (.cells #[y0,y1,y2,y3,y4,y5] 30 (0,0))) (hres:f.results=#[.cell c 30,.tmp s]) (hc:a.tmps.getD c undef=.pointer (some ⟨g,0,none⟩)) (hs:a.tmps.getD s undef=v) (hd:a.defers=[])
 (hQ:Q (.returned (.tuple #[.agg #[x0,x1,x2,x3,x4,x5],v])) (set6 w g x0 x1 x2 x3 x4 x5)):bodyPost Tryz.prog f Q .ret a (set6 w g x0 x1 x2 x3 x4 x5):=by
 refine bodyPost_ret (v:=.tuple #[.agg #[x0,x1,x2,x3,x4,x5],v]) ?_ hd hQ
 obtain ⟨q0,q1,q2,q3,q4,q5⟩:=six_of (six_put h x0 x1 x2 x3 x4 x5)
 obtain ⟨tm,df⟩:=a
 simp only [Array.getD_eq_getD_getElem?] at hc hs
 simp [results,hres,go_sem,hc,hs,q0,q1,q2,q3,q4,q5]
end Go.Proofs.YtdppdonaojdceaaGreatDoor
namespace Go.Proofs.YtdppdonaojdceaaGreatDoor
open Go.Lib
theorem checkN_more {n n' b1 b2 b3 c1 c2 c3 sz lo hi k:Nat} (h:checkN n b1 b2 b3 sz lo hi=some k) (hn:n≤n') (h1:1<k→c1=b1) (h2:2<k→c2=b2) (h3:3<k→c3=b3):checkN n' c1 c2 c3 sz lo hi=some k∧k≤n∧2≤k:=by
 unfold checkN at h ⊢
 split at h
 ·split at h
  ·cases h
  ·cases h
   rename_i e1 e2
   have:=h1 (by decide)
   rw [if_pos e1,if_neg (by omega)]
   exact ⟨rfl,by omega,by omega⟩
 ·split at h
  ·split at h
   ·cases h
   ·cases h
    rename_i e0 e1 e2
    have:=h1 (by decide)
    have:=h2 (by decide)
    rw [if_neg e0,if_pos e1,if_neg (by omega)]
    exact ⟨rfl,by omega,by omega⟩
  ·split at h
   ·split at h
    ·cases h
    ·cases h
     rename_i e0 e1 e2 e3
     have:=h1 (by decide)
     have:=h2 (by decide)
     have:=h3 (by decide)
     rw [if_neg e0,if_neg e1,if_pos e2,if_neg (by omega)]
     exact ⟨rfl,by omega,by omega⟩
   ·cases h
theorem validD_app:∀ (n:Nat) (l m:List UInt8),l.length≤n→validD l=true→validD (l++m)=validD m
 | n,[],m,_,_=>rfl
 | 0,b::t,m,hn,_=>by simp at hn
 | n+1,b::t,m,hn,h=>by
  by_cases hb:b.toNat<128
  ·rw [validD_cons b t hb] at h
   show validD (b::(t++m))=_
   rw [validD_cons b _ hb]
   exact validD_app n t m (by simpa using hn) h
  ·have e:=validD_lead (b::t) (by simp) (by show 128≤b.toNat;omega)
   rw [h] at e
   split at e
   ·cases e
   ·rename_i k hk
    have hg:∀i,i<(b::t).length→((b::t)++m).getD i 0=(b::t).getD i 0:=fun i hi=>by
     simp only [List.getD_eq_getElem?_getD];rw [List.getElem?_append_left hi]
    have hkn:k≤(b::t).length:=(checkN_more hk (Lr _) (fun _=>rfl) (fun _=>rfl) (fun _=>rfl)).2.1
    obtain ⟨q1,q2,q3⟩:=checkN_more (n':=((b::t)++m).length) hk (by simp) (c1:=(((b::t)++m).getD 1 0).toNat) (c2:=(((b::t)++m).getD 2 0).toNat) (c3:=(((b::t)++m).getD 3 0).toNat) (fun hk=>by rw [hg 1 (by omega)]) (fun hk=>by rw [hg 2 (by omega)]) (fun hk=>by rw [hg 3 (by omega)])
    have e2:=validD_lead ((b::t)++m) (by simp) (by show 128≤b.toNat;omega)
    rw [hg 0 (by simp)] at e2
    rw [q1] at e2
    rw [e2]
    show validD (((b::t)++m).drop k)=_
    rw [List.drop_append_of_le_length q2]
    exact validD_app n _ m (by rw [List.length_drop];omega) e.symm
theorem valid_app {s t:ByteArray} (hs:validD s.data.toList=true) (ht:validD t.data.toList=true):validD (s++t).data.toList=true:=by
 have e:(s++t).data.toList=s.data.toList++t.data.toList:=by simp
 rw [e,validD_app _ _ _ (Lr _) hs];exact ht
def textOk (s:ByteArray):Bool:=decide (s.size≤65536) && validD s.data.toList
end Go.Proofs.YtdppdonaojdceaaGreatDoor
namespace Go.Proofs.YtdppdonaojdceaaGreatDoor
def flatOk (x:ND):Bool:=
 decide (0≤x.kind) && decide (x.kind≤5) && (!x.bool || decide (x.kind=1)) && (decide (x.num=0) || decide (x.kind=2)) && (decide (x.text=⟨#[]⟩) || decide (x.kind=3)) &&
 (decide (x.items.length=0) || decide (4≤x.kind)) && (decide (x.names.length=0) || decide (x.kind=5)) && textOk x.text && decide (x.items.length≤256) && (decide (x.kind ≠ 5) || decide (x.names.length=x.items.length)) &&
 x.names.all textOk && decide x.names.Nodup
def validN:Nat→ND→Bool
 | 0,_=>false
 | d+1,x=>flatOk x && x.items.all (validN d)
theorem validN_succ (d:Nat) (x:ND):validN (d+1) x=(flatOk x && x.items.all (validN d)):=rfl
theorem validN_mono:∀ {d d':Nat} {x:ND},d≤d'→validN d x=true→validN d' x=true
 | 0,_,_,_,h=>by cases h
 | d+1,0,_,hd,_=>by omega
 | d+1,d'+1,x,hd,h=>by
  rw [validN_succ,Bool.and_eq_true,List.all_eq_true] at h ⊢
  exact ⟨h.1,fun y hy=>validN_mono (by omega) (h.2 y hy)⟩
structure MapOk (d:Nat) (x:ND):Prop where
 kind:x.kind=5
 bool:x.bool=false
 num:x.num=0
 text:x.text=⟨#[]⟩
 len:x.names.length=x.items.length
 most:x.items.length≤256
 texts:∀s,s ∈ x.names→textOk s=true
 nodup:x.names.Nodup
 items:∀y,y ∈ x.items→validN d y=true
theorem mapOk_iff {d:Nat} {x:ND} (hk:x.kind=5):validN (d+1) x=true↔MapOk d x:=by
 have ht:textOk ⟨#[]⟩=true:=by decide
 rw [validN_succ]
 unfold flatOk
 simp only [Bool.and_eq_true,List.all_eq_true,hk]
 constructor
 ·rintro ⟨⟨⟨⟨⟨⟨⟨⟨⟨⟨⟨⟨-,-⟩,h1⟩,h2⟩,h3⟩,-⟩,-⟩,-⟩,h4⟩,h5⟩,h6⟩,h7⟩,h8⟩
  refine ⟨hk,?_,?_,?_,?_,?_,h6,by simpa using h7,h8⟩
  ·simpa using h1
  ·simpa using h2
  ·simpa using h3
  ·simpa using h5
  ·simpa using h4
 ·intro h
  refine ⟨⟨⟨⟨⟨⟨⟨⟨⟨⟨⟨⟨by decide,by decide⟩,?_⟩,?_⟩,?_⟩,?_⟩,?_⟩,?_⟩,?_⟩,?_⟩,h.texts⟩,by simpa using h.nodup⟩,h.items⟩
  ·simp [h.bool]
  ·simp [h.num]
  ·simp [h.text]
  ·simp
  ·simp
  ·rw [h.text];exact ht
  ·simpa using h.most
  ·simp [h.len]
def wideI (z:Int):Bool:=decide (-9223372036854775808≤z) && decide (z≤9223372036854775807)
def numsB:Nat→ND→Bool
 | 0,_=>true
 | d+1,x=>wideI x.num && x.items.all (numsB d)
def validW (d:Nat) (x:ND):Bool:=validN d x && numsB d x
theorem validW_valid {d:Nat} {x:ND} (h:validW d x=true):validN d x=true:=by unfold validW at h;rw [Bool.and_eq_true] at h;exact h.1
theorem validW_nums {d:Nat} {x:ND} (h:validW d x=true):numsB d x=true:=by unfold validW at h;rw [Bool.and_eq_true] at h;exact h.2
theorem validW_mk {d:Nat} {x:ND} (h:validN (d+1) x=true) (hw:wideI x.num=true) (hi:∀y,y ∈ x.items→validW d y=true):validW (d+1) x=true:=by
 unfold validW numsB
 rw [h,hw,Bool.true_and,Bool.true_and,List.all_eq_true]
 exact fun y hy=>validW_nums (hi y hy)
theorem numsB_succ (d:Nat) (x:ND):numsB (d+1) x=(wideI x.num && x.items.all (numsB d)):=rfl
def costN:Nat→ND→Nat
 | 0,_=>0
 | d+1,x=>24+6 * x.text.size+(x.names.map fun s=>6 * s.size+8).sum+(x.items.map fun y=>costN d y+1).sum
theorem costN_succ (d:Nat) (x:ND):costN (d+1) x=24+6 * x.text.size+(x.names.map fun s=>6 * s.size+8).sum+(x.items.map fun y=>costN d y+1).sum:=rfl
def bndN:Nat→Nat
 | 0=>259
 | d+1=>1047+3 * bndN d
theorem bndN_succ (d:Nat):bndN (d+1)=1047+3 * bndN d:=rfl
theorem bndN_1:∀ {d:Nat},1≤d→1824≤bndN d
 | 1,_=>by decide
 | d+2,_=>by have:=bndN_1 (d:=d+1) (by omega);rw [bndN_succ];omega
theorem sum_le {α:Type} {f:α→Nat} {c:Nat}:∀ {l:List α},(∀y,y ∈ l→f y≤c)→(l.map f).sum≤c * l.length
 | [],_=>Lr _
 | a::t,h=>by
  have h1:=sum_le (f:=f) (c:=c) (l:=t) fun y hy=>h y (by simp [hy])
  have h2:=h a (by simp)
  rw [List.map_cons,List.sum_cons,List.length_cons,Nat.mul_add]
  omega
theorem costN_same:∀ {e d:Nat} {x:ND},e≤d→validN e x=true→costN d x=costN e x
 | 0,_,_,_,h=>by cases h
 | e+1,0,_,h,_=>by omega
 | e+1,d+1,x,hd,h=>by
  rw [validN_succ,Bool.and_eq_true,List.all_eq_true] at h
  rw [costN_succ,costN_succ,List.map_congr_left (g:=fun y=>costN e y+1) fun y hy=>by rw [costN_same (by omega) (h.2 y hy)]]
def validK (d:Nat) (x:ND):Bool:=validW d x && decide (costN d x≤bndN d)
theorem validK_w {d:Nat} {x:ND} (h:validK d x=true):validW d x=true:=by unfold validK at h;rw [Bool.and_eq_true] at h;exact h.1
theorem validK_valid {d:Nat} {x:ND} (h:validK d x=true):validN d x=true:=validW_valid (validK_w h)
theorem validK_cost {d:Nat} {x:ND} (h:validK d x=true):costN d x≤bndN d:=by unfold validK at h;rw [Bool.and_eq_true] at h;exact of_decide_eq_true h.2
theorem validK_mk {d:Nat} {x:ND} (h:validW d x=true) (hc:costN d x≤bndN d):validK d x=true:=by unfold validK;rw [h,decide_eq_true hc];rfl
def costs (d:Nat) (its:List ND):Nat:=(its.map fun y=>costN d y+1).sum
theorem costs_few {d:Nat} {its:List ND} (h:∀y,y ∈ its→validK d y=true) (hl:its.length≤3):costs d its≤3 * (bndN d+1):=by
 have:=sum_le (f:=fun y=>costN d y+1) (c:=bndN d+1) (l:=its) fun y hy=>Nat.succ_le_succ (validK_cost (h y hy))
 exact Nat.le_trans this (by rw [Nat.mul_comm];exact Nat.mul_le_mul_right _ hl)
theorem costs_push (d:Nat) (its:List ND) (y:ND):costs d (its++[y])=costs d its+(costN d y+1):=by unfold costs;rw [List.map_append,List.sum_append];rfl
end Go.Proofs.YtdppdonaojdceaaGreatDoor
namespace Go.Proofs.YtdppdonaojdceaaGreatDoor
open Go Go.Maps Go.RowKit
def inB (s:ByteArray) (ns:List ByteArray):Bool:=ns.any fun t=>decide (s=t)
theorem inB_iff (s:ByteArray) (ns:List ByteArray):inB s ns=true↔s ∈ ns:=by
 unfold inB
 rw [List.any_eq_true]
 constructor
 ·rintro ⟨t,ht,e⟩
  rw [of_decide_eq_true e];exact ht
 ·exact fun h=>⟨s,h,decide_eq_true rfl⟩
def setD:List ByteArray→DataW Unit
 | []=>.map []
 | s::ns=>(setD ns).put (.string s.data.toList) (.lit (.bool true))
theorem setD_isMap:∀ns,IsMap (setD ns)
 | []=>isMap_empty
 | _::ns=>(setD_isMap ns).put _ _
theorem setD_at (s:ByteArray):∀ns,(setD ns).atKey (.string s.data.toList) (.lit (.bool false))=.lit (.bool (inB s ns))
 | []=>by
  rfl
 | t::ns=>by
  unfold setD
  by_cases h:s=t
  ·subst h
   rw [atKey_put_same (setD_isMap ns) (show WideAt.IsKeyLit (.string s.data.toList) from trivial)]
   rw [(inB_iff s (s::ns)).2 (by simp)]
  ·have hne:s.data.toList ≠ t.data.toList:=fun e=>h (ByteArray.ext (Array.toList_inj.1 e))
   rw [atKey_put_other (by intro e;simp only [Lit.string.injEq] at e;first | exact hne e | exact hne e.symm),setD_at s ns]
   simp [inB,h]
section
variable {P:Program} {t k e:TypeId} {w:World} {b:Nat} {ns:List ByteArray}
def OwnsSet (P:Program) (k e:TypeId) (w:World) (b:Nat) (ns:List ByteArray):Prop:=w.ownsMap P k (plainElem (H:=Unit) P e) b ns.length (setD ns)
theorem plainElem_bool_inv {H:Type} (he:P.underlying e=some .bool) {v:Value} {z:DataW H × List MemPlace} (h:plainElem P e v=some z):∃x,v=.bool x∧z=(.lit (.bool x),[]):=by
 unfold plainElem at h
 rw [he] at h
 cases v <;> simp at h
 exact ⟨_,rfl,h.symm⟩
theorem OwnsSet.look (h:OwnsSet P k e w b ns) (K:Keyed P k) (ht:P.underlying t=some (.map k e)) (he:P.underlying e=some .bool) (hz:(zeroValue e).run P w=.ok (.bool false) w) (s:ByteArray) (hkey:keyOf P k (.string s)=some (.string s.data.toList)) :
 (Instr.lookup t (.map (some b)) (.string s) false).run P w=.ok (.bool (inB s ns)) w:=by
 obtain ⟨v,ps,hrun,hv⟩:=World.ownsMap.lookup h K ht hz (plainElem_bool he false) hkey
 obtain ⟨x,rfl,e'⟩:=plainElem_bool_inv he hv
 rw [setD_at] at e'
 simp only [Prod.mk.injEq,DataW.lit.injEq,Lit.bool.injEq] at e'
 rw [hrun,e'.1]
theorem OwnsSet.kept {w':World} {row:Option Nat} (h:OwnsSet P k e w b ns) (hg:w.grownBy w' row) (hne:some b ≠ row):OwnsSet P k e w' b ns:=World.ownsMap.kept h hg hne
theorem OwnsSet.lt (h:OwnsSet P k e w b ns):b<w.heap.size:=World.ownsMap.lt h
theorem OwnsSet.below {w':World} (h:OwnsSet P k e w b ns) (hb:Below w.heap.size w w'):OwnsSet P k e w' b ns:=
 h.kept (row:=none) ⟨hb.os,hb.tape,hb.output,hb.size,fun i hi _=>hb.block i hi⟩ (by simp)
theorem OwnsSet.made (w:World) (P:Program) (k e:TypeId):OwnsSet P k e (w.alloc (.map #[] 0)) w.heap.size []:=World.ownsMap_made w P k _
theorem OwnsSet.put {w':World} {s:ByteArray} (h:w'.ownsMap P k (plainElem (H:=Unit) P e) b (ns.length+1) ((setD ns).put (.string s.data.toList) (.lit (.bool true)))):OwnsSet P k e w' b (s::ns):=h
end
end Go.Proofs.YtdppdonaojdceaaGreatDoor