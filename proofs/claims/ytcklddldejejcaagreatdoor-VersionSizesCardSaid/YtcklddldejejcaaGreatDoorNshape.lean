/- Contract of the document's own Decode of primitive. -/
import Derived.Test.YtcklddldejejcaaGreatDoorRows
import Derived.Test.YtcklddldejejcaaGreatDoorJdoor
import Derived.OneCell
import Derived.Laws.StructEq
import Derived.Deep.RegionHeld3
import Derived.WalkKit
import Derived.ProofKit
import Derived.OpenShut
import Derived.WalkSpells
import Derived.WalkLawsBesides
import Derived.Outline
import Derived.Lib.Hide
import Derived.Deep.QuietTactic
import Derived.BigQuiet
import Derived.StillTailTactics
import Derived.Deep.DeepCutAuto
set_option linter.unusedVariables false
set_option linter.unusedSimpArgs false
set_option maxRecDepth 100000
set_option maxHeartbeats 800000
namespace Go.Proofs.YtcklddldejejcaaGreatDoor
open Go.ChangeShapes Go.WideShapes Go.ChangeAt Go.RowKit
theorem two_of {w:World} {g:Nat} {u v:Value} {T:TypeId} (h:w.heap[g]?=some (.cells #[u,v] T (0,0))):w.cell? ⟨g,0,none⟩=some u∧w.cell? ⟨g,1,none⟩=some v:=by
 constructor <;> simp [World.cell?,h]
theorem two_set0 {w:World} {g:Nat} {u v:Value} {T:TypeId} (h:w.heap[g]?=some (.cells #[u,v] T (0,0))) (x:Value):(w.setCell ⟨g,0,none⟩ x).heap[g]?=some (.cells #[x,v] T (0,0)):=by
 have hlt:=lt_of_block h
 have h':w.heap[g]=.cells #[u,v] T (0,0):=by simpa [Array.getElem?_eq_getElem hlt] using h
 show (w.heap.modify g _)[g]?=_
 rw [Array.getElem?_eq_getElem (by simpa using hlt),Array.getElem_modify_self,h']
 rfl
theorem two_set1 {w:World} {g:Nat} {u v:Value} {T:TypeId} (h:w.heap[g]?=some (.cells #[u,v] T (0,0))) (x:Value):(w.setCell ⟨g,1,none⟩ x).heap[g]?=some (.cells #[u,x] T (0,0)):=by
 have hlt:=lt_of_block h
 have h':w.heap[g]=.cells #[u,v] T (0,0):=by simpa [Array.getElem?_eq_getElem hlt] using h
 show (w.heap.modify g _)[g]?=_
 rw [Array.getElem?_eq_getElem (by simpa using hlt),Array.getElem_modify_self,h']
 rfl
theorem two_put {w:World} {g:Nat} {u v:Value} {T:TypeId} (h:w.heap[g]?=some (.cells #[u,v] T (0,0))) (x y:Value):(w.setCell ⟨g,0,none⟩ x).cell? ⟨g,0,none⟩=some x∧((w.setCell ⟨g,0,none⟩ x).setCell ⟨g,1,none⟩ y).cell? ⟨g,1,none⟩=some y:=
 ⟨(two_of (two_set0 h x)).1,(two_of (two_set1 (two_set0 h x) y)).2⟩
theorem free_two {w:World} {g:Nat} {u v:Value} {T:TypeId} (h:w.heap[g]?=some (.cells #[u,v] T (0,0))):w.frozen? ⟨g,0,none⟩=false∧w.frozen? ⟨g,1,none⟩=false:=by
 constructor <;> simp [World.frozen?,h]
theorem w64 (n:Int) (h:-9223372036854775808≤n∧n≤9223372036854775807):IntKind.i64.wrap n=n:=by rw [IntKind.wrap_i64];omega
def NumsB (B:Nat) (w:World) (a:Option Addr) (len cap:Nat) (zs:List Int):Prop:=
 len≤cap∧cap≤maxLen∧(∀i,i<cap→∃b off,a=some ⟨b,off,none⟩∧b<B∧w.cell? ⟨b,off+i,none⟩=some (.int .i64 (zs.getD i 0)))∧∀i,-9223372036854775808≤zs.getD i 0∧zs.getD i 0≤9223372036854775807
theorem NumsB.of_row {w:World} {a:Option Addr} {len cap:Nat} {zs:List Int} (h:IsRow .i64 w a len cap zs):NumsB w.heap.size w a len cap zs:=by
 obtain ⟨h1,h2,h3,h4,h5⟩:=h
 refine ⟨h1,h2,h4,fun i=>?_⟩
 rcases Nat.lt_or_ge i zs.length with h | h
 ·have hm:zs.getD i 0 ∈ zs:=by rw [List.getD,List.getElem?_eq_getElem h];exact List.getElem_mem h
  exact bounds_i64 (h5 _ hm)
 ·rw [List.getD,List.getElem?_eq_none h];decide
theorem NumsB.same {B:Nat} {w w':World} {a:Option Addr} {len cap:Nat} {zs:List Int} (h:NumsB B w a len cap zs) (hb:∀j,j<B→w'.heap[j]?=w.heap[j]?):NumsB B w' a len cap zs:=by
 obtain ⟨h1,h2,h3,h4⟩:=h
 refine ⟨h1,h2,fun i hi=>?_,h4⟩
 obtain ⟨b,off,e,hbB,hc⟩:=h3 i hi
 refine ⟨b,off,e,hbB,?_⟩
 rw [←hc]
 simp only [World.cell?,hb b hbB]
def DiceAt (B:Nat) (w:World) (g:Nat):Prop:=
 ∃a len cap k zs,B≤g∧w.heap[g]?=some (.cells #[.slice a len cap,.int .i64 ((k:Nat):Int)] 63 (0,0))∧k≤len∧NumsB B w a len cap zs
theorem DiceAt.lt {B g:Nat} {w:World} (h:DiceAt B w g):g<w.heap.size:=by
 obtain ⟨_,_,_,_,_,_,h,_⟩:=h
 exact lt_of_block h
theorem DiceAt.same {B g:Nat} {w w':World} (h:DiceAt B w g) (hb:∀j,j≤g→w'.heap[j]?=w.heap[j]?):DiceAt B w' g:=by
 obtain ⟨a,len,cap,k,zs,hB,hh,hk,hn⟩:=h
 exact ⟨a,len,cap,k,zs,hB,(hb g (Lr _)).trans hh,hk,hn.same fun j hj=>hb j (by omega)⟩
theorem DiceAt.below {B g C:Nat} {w w':World} (h:DiceAt B w g) (hg:g<C) (hb:Below C w w'):DiceAt B w' g:=h.same fun j hj=>hb.block j (by omega)
theorem DiceAt.go {B g:Nat} {w w':World} (h:DiceAt B w g) (hb:Below w.heap.size w w'):DiceAt B w' g:=h.below h.lt hb
theorem grown_of_below {w w':World} {C:Nat} (hb:Below C w w') (hC:w.heap.size≤C) (row:Option Nat):w.grownBy w' row:=
 ⟨hb.os,hb.tape,hb.output,hb.size,fun i hi _=>hb.block i (by omega)⟩
theorem keepG {w w':World} {g h:Nat} {o:Obj} (hg:w.grownBy w' (some g)) (hne:h ≠ g) (hh:w.heap[h]?=some o):w'.heap[h]?=some o:=
 (hg.block h (lt_of_block hh) (by intro e;cases e;exact hne rfl)).trans hh
theorem light_any (a:Option Addr) (len cap:Nat) (w:World):Calls Tryz.prog 9 #[.slice a len cap] w fun e w'=>e=.returned (.bool (decide ((len:Int)≤500)))∧w=w':=by
 go_enter Tryz.func9,Tryz.ntmps9
 go_wp2
 go_ret
 exact ⟨rfl,rfl⟩
theorem roll_any (a:Option Addr) (len cap:Nat) (zs:List Int) (w:World) (h:NumsB w.heap.size w a len cap zs):Calls Tryz.prog 12 #[.slice a len cap] w fun e w'=>e=.returned (.pointer (some ⟨w.heap.size,0,none⟩))∧Below w.heap.size w w'∧DiceAt w.heap.size w' w.heap.size:=by
 have HN:=Hh h
 clear h
 go_enter Tryz.func12,Tryz.ntmps12
 go_wp2
 go_ret
 refine ⟨rfl,(Br _ _).alloc (Lr _) _,a,len,cap,0,zs,Lr _,Hn _ _,Nat.zero_le _,HN.out.same fun j hj=>?_⟩
 exact Below.heap_alloc _ _ j hj
theorem grown_set1 (w:World) (g:Nat) (v:Value):w.grownBy (w.setCell ⟨g,1,none⟩ v) (some g):=
 ⟨rfl,rfl,rfl,by simp [World.setCell],fun i _ hne=>heap_setCell_other w ⟨g,1,none⟩ i v (fun e=>hne (by rw [e]))⟩
theorem grown_drewN {a w:World} {row:Option Nat} (h:a.grownBy w row) (n:Nat):a.grownBy (w.drewN n) row:=⟨h.os,h.tape,h.output,h.size,h.block⟩
theorem next_any (B g:Nat) (n:Nat) (w:World) (h1:1≤n) (hn:n<2 ^ 62) (hd:DiceAt B w g):Calls Tryz.prog 36 #[.pointer (some ⟨g,0,none⟩),.int .i64 (n:Int)] w fun e w'=>(∃k:Nat,k<n∧e=.returned (.int .i64 (k:Int)))∧w.grownBy w' (some g)∧DiceAt B w' g:=by
 obtain ⟨a,len,cap,k,zs,hB,hh,hk,hN⟩:=hd
 have hc:=two_of hh
 have hf:=free_two hh
 have hN':=hN
 obtain ⟨hlc,hcm,hcell,hbd⟩:=hN
 unfold maxLen at hcm
 by_cases hlt:k<len
 ·obtain ⟨b,off,rfl,hbB,hcx⟩:=hcell k (by omega)
  obtain ⟨z,hz⟩:∃z,z=zs.getD k 0:=⟨_,rfl⟩
  have hzb:=hbd k
  rw [←hz] at hcx hzb
  have M:=Hh (fun (wx:World)=>mod_any z n wx h1 hn hzb.1 hzb.2)
  obtain ⟨m,hm⟩:∃m:Nat,z % (n:Int)=(m:Int):=⟨(z % (n:Int)).toNat,by have:=Int.emod_nonneg z (b:=(n:Int)) (by omega);omega⟩
  have hmn:m<n:=by have:=Int.emod_lt_of_pos z (b:=(n:Int)) (by omega);omega
  rw [hm] at M
  have HN:=Hh hN'
  have HH:=Hh hh
  have hne:b ≠ g:=by omega
  clear hN' hcell hbd hz hm hh
  go_enter Tryz.func36,Tryz.ntmps36
  have hkl:(k:Int)<(len:Int):=by omega
  have hkl2:k<len:=hlt
  go_wp2
  go_quiet (fail)
  go_wp2
  have hB1:=two_set1 (w:=w.drewN nq) HH.out (.int .i64 ((k:Int)+1))
  have hs1:=two_of hB1
  have hcx1:((w.drewN nq).setCell ⟨g,1,none⟩ (.int .i64 ((k:Int)+1))).cell? ⟨b,off+k,none⟩=some (.int .i64 z):=by
   rw [←hcx]
   simp only [World.cell?,heap_setCell_other (w.drewN nq) ⟨g,1,none⟩ b _ hne]
   rfl
  have ek:(k:Int)+1 - 1=(k:Int):=by omega
  have e1:IntKind.i64.wrap ((k:Int)+1 - 1)=(k:Int):=by rw [ek];exact w64 _ (by omega)
  have gg:=gtrans (grown_drewN (World.grownBy.refl w (some g)) nq) (grown_set1 (w.drewN nq) g (.int .i64 ((k:Int)+1)))
  have hk0:(0:Int)≤(k:Int):=by omega
  have hd0:=hs1.1
  have hd1:=hs1.2
  have HB1:=Hh hB1
  have HD:=Hh (HN.out.same (w':=(w.drewN nq).setCell ⟨g,1,none⟩ (.int .i64 ((k:Int)+1))) fun j hj=>heap_setCell_other (w.drewN nq) ⟨g,1,none⟩ j _ (show j ≠ g by omega))
  clear hc hcx hs1 hB1
  go_quiet (first | (go_at_call 13;(with_reducible refine (M.out _).mono ?_);exact fun e u h=>⟨h.1,_,h.2.symm⟩))
  go_wp2
  go_ret
  refine ⟨⟨m,hmn,rfl⟩,grown_drewN gg _,_,len,cap,k+1,zs,hB,HB1.out,by omega,HD.out⟩
 ·have HN:=Hh hN'
  have HH:=Hh hh
  have hge:(len:Int)≤(k:Int):=by omega
  have hge2:len≤k:=by omega
  clear hN' hcell hbd hh
  go_enter Tryz.func36,Tryz.ntmps36
  go_wp2
  go_quiet (fail)
  go_wp2
  go_ret
  refine ⟨⟨0,by omega,rfl⟩,grown_drewN (World.grownBy.refl w _) _,a,len,cap,k,zs,hB,HH.out,by omega,HN.out⟩
theorem owns_grown {w w':World} {C e size n g:Nat} {v:Value} {xs:List Value} (h:w.ownsRow C e size v n xs) (hg:w.grownBy w' (some g)) (hlt:g<C):w'.ownsRow C e size v n xs:=by
 obtain ⟨h1,h2 | ⟨g',cap,cur,hv,hC,hh,r⟩⟩:=h
 ·exact ⟨h1,.inl h2⟩
 ·exact ⟨h1,.inr ⟨g',cap,cur,hv,hC,keepG hg (by omega) hh,r⟩⟩
theorem next_lit (B g:Nat) (n:Nat) (z:Int) (hz:(n:Int)=z) (w:World) (h1:1≤n) (hn:n<2 ^ 62) (hd:DiceAt B w g):Calls Tryz.prog 36 #[.pointer (some ⟨g,0,none⟩),.int .i64 z] w fun e w'=>(∃k:Nat,k<n∧e=.returned (.int .i64 (k:Int)))∧w.grownBy w' (some g)∧DiceAt B w' g:=hz ▸ next_any B g n w h1 hn hd
def strSize:Value→Nat
 | .string s=>s.size
 | _=>0
theorem DiceAt.setNew {B g:Nat} {w:World} (h:DiceAt B w g) {k:Nat} (hk:g<k) (o:Nat) (v:Value):DiceAt B (w.setCell ⟨k,o,none⟩ v) g:=
 h.same fun j hj=>heap_setCell_other w ⟨k,o,none⟩ j v (show j ≠ k by omega)
end Go.Proofs.YtcklddldejejcaaGreatDoor
namespace Go.Proofs.YtcklddldejejcaaGreatDoor
open Go Go.RowKit
inductive ND where
 | mk (kind:Int) (bool:Bool) (num:Int) (text:ByteArray) (names:List ByteArray) (items:List ND)
namespace ND
def kind:ND→Int | .mk k _ _ _ _ _=>k
def bool:ND→Bool | .mk _ b _ _ _ _=>b
def num:ND→Int | .mk _ _ n _ _ _=>n
def text:ND→ByteArray | .mk _ _ _ t _ _=>t
def names:ND→List ByteArray | .mk _ _ _ _ ns _=>ns
def items:ND→List ND | .mk _ _ _ _ _ its=>its
end ND
def StrsIn (S:Nat→Prop) (w:World) (v:Value) (ns:List ByteArray):Prop:=
 ∃ao cap,v=.slice ao ns.length cap∧ns.length≤cap∧cap≤maxLen∧∀j s,ns[j]?=some s→∃b off,ao=some ⟨b,off,none⟩∧S b∧w.cell? ⟨b,off+j,none⟩=some (.string s)∧s.size≤maxLen - 2
def NodesIn (R:List Value→ND→Prop) (S:Nat→Prop) (w:World) (v:Value) (its:List ND):Prop:=
 ∃ao cap,v=.slice ao its.length cap∧its.length≤cap∧cap≤maxLen∧∀j x,its[j]?=some x→∃b off cs,ao=some ⟨b,off,none⟩∧S b∧(∀f u,cs[f]?=some u→w.cell? ⟨b,off+j * 6+f,none⟩=some u)∧R cs x
def NodeIn:Nat→(Nat→Prop)→World→List Value→ND→Prop
 | 0,_,_,_,_=>False
 | d+1,S,w,cs,x=>∃vn vi,cs=[.int .i64 x.kind,.bool x.bool,.int .i64 x.num,.string x.text,vn,vi]∧x.text.size≤maxLen - 2∧StrsIn S w vn x.names∧NodesIn (NodeIn d S w) S w vi x.items
section
variable {S S':Nat→Prop} {w w':World}
theorem StrsIn.same {v:Value} {ns:List ByteArray} (h:StrsIn S w v ns) (hb:∀b,S b→w'.heap[b]?=w.heap[b]?):StrsIn S w' v ns:=by
 obtain ⟨ao,cap,h1,h2,h3,h4⟩:=h
 refine ⟨ao,cap,h1,h2,h3,fun j s hj=>?_⟩
 obtain ⟨b,off,e,hS,hc,hs⟩:=h4 j s hj
 exact ⟨b,off,e,hS,by rw [cell_same (hb b hS)];exact hc,hs⟩
theorem StrsIn.mono {v:Value} {ns:List ByteArray} (h:StrsIn S w v ns) (hS:∀b,S b→S' b):StrsIn S' w v ns:=by
 obtain ⟨ao,cap,h1,h2,h3,h4⟩:=h
 refine ⟨ao,cap,h1,h2,h3,fun j s hj=>?_⟩
 obtain ⟨b,off,e,hb,hc,hs⟩:=h4 j s hj
 exact ⟨b,off,e,hS b hb,hc,hs⟩
theorem NodesIn.same {R R':List Value→ND→Prop} {v:Value} {its:List ND} (h:NodesIn R S w v its) (hb:∀b,S b→w'.heap[b]?=w.heap[b]?) (hR:∀cs x,R cs x→R' cs x):NodesIn R' S w' v its:=by
 obtain ⟨ao,cap,h1,h2,h3,h4⟩:=h
 refine ⟨ao,cap,h1,h2,h3,fun j x hj=>?_⟩
 obtain ⟨b,off,cs,e,hS,hc,hr⟩:=h4 j x hj
 exact ⟨b,off,cs,e,hS,fun f u hu=>by rw [cell_same (hb b hS)];exact hc f u hu,hR cs x hr⟩
theorem NodesIn.mono {R R':List Value→ND→Prop} {v:Value} {its:List ND} (h:NodesIn R S w v its) (hS:∀b,S b→S' b) (hR:∀cs x,R cs x→R' cs x):NodesIn R' S' w v its:=by
 obtain ⟨ao,cap,h1,h2,h3,h4⟩:=h
 refine ⟨ao,cap,h1,h2,h3,fun j x hj=>?_⟩
 obtain ⟨b,off,cs,e,hb,hc,hr⟩:=h4 j x hj
 exact ⟨b,off,cs,e,hS b hb,hc,hR cs x hr⟩
theorem NodeIn.same:∀ {d:Nat} {cs:List Value} {x:ND},NodeIn d S w cs x→(∀b,S b→w'.heap[b]?=w.heap[b]?)→NodeIn d S w' cs x
 | 0,_,_,h,_=>h
 | d+1,cs,x,h,hb=>by
  obtain ⟨vn,vi,h1,h2,h3,h4⟩:=h
  exact ⟨vn,vi,h1,h2,h3.same hb,h4.same hb fun cs x h=>NodeIn.same h hb⟩
theorem NodeIn.mono:∀ {d:Nat} {cs:List Value} {x:ND},NodeIn d S w cs x→(∀b,S b→S' b)→NodeIn d S' w cs x
 | 0,_,_,h,_=>h
 | d+1,cs,x,h,hS=>by
  obtain ⟨vn,vi,h1,h2,h3,h4⟩:=h
  exact ⟨vn,vi,h1,h2,h3.mono hS,h4.mono hS fun cs x h=>NodeIn.mono h hS⟩
theorem NodeIn.deeper:∀ {d d':Nat} {cs:List Value} {x:ND},d≤d'→NodeIn d S w cs x→NodeIn d' S w cs x
 | 0,_,_,_,_,h=>h.elim
 | d+1,0,_,_,hd,_=>by omega
 | d+1,d'+1,cs,x,hd,h=>by
  obtain ⟨vn,vi,h1,h2,h3,h4⟩:=h
  exact ⟨vn,vi,h1,h2,h3,h4.mono (fun _ h=>h) fun cs x h=>NodeIn.deeper (by omega) h⟩
theorem NodeIn.form {d:Nat} {cs:List Value} {x:ND} (h:NodeIn d S w cs x):∃vn vi,cs=[.int .i64 x.kind,.bool x.bool,.int .i64 x.num,.string x.text,vn,vi]:=by
 cases d with
 | zero=>exact h.elim
 | succ d=>obtain ⟨vn,vi,h1,_⟩:=h;exact ⟨vn,vi,h1⟩
theorem NodeIn.len {d:Nat} {cs:List Value} {x:ND} (h:NodeIn d S w cs x):cs.length=6:=by
 obtain ⟨vn,vi,rfl⟩:=h.form
 rfl
theorem StrsIn.nil (S:Nat→Prop) (w:World):StrsIn S w (.slice none 0 0) []:=⟨none,0,rfl,Lr _,Nat.zero_le _,fun j s h=>by simp at h⟩
theorem NodesIn.nil (R:List Value→ND→Prop) (S:Nat→Prop) (w:World):NodesIn R S w (.slice none 0 0) []:=⟨none,0,rfl,Lr _,Nat.zero_le _,fun j s h=>by simp at h⟩
end
def nd0:ND:=.mk 0 false 0 ⟨#[]⟩ [] []
theorem node_leaf (S:Nat→Prop) (w:World) (k:Int) (b:Bool) (n:Int) (t:ByteArray) (ht:t.size≤maxLen - 2):NodeIn 1 S w [.int .i64 k,.bool b,.int .i64 n,.string t,.slice none 0 0,.slice none 0 0] (.mk k b n t [] []):=
 ⟨_,_,rfl,ht,StrsIn.nil S w,NodesIn.nil _ S w⟩
def SRow (TS:TypeId) (base:Nat) (w:World) (v:Value) (ns:List ByteArray):Prop:=
 w.ownsRow base TS 1 v ns.length (ns.map Value.string)∧∀s,s ∈ ns→s.size≤maxLen - 2
theorem SRow.nil (TS:TypeId) (base:Nat) (w:World):SRow TS base w (.slice none 0 0) []:=⟨World.ownsRow_nil w _ _ _,fun x hx=>by cases hx⟩
theorem SRow.kept {TS:TypeId} {base:Nat} {w w':World} {v:Value} {ns:List ByteArray} {row:Option Nat} (h:SRow TS base w v ns) (hg:w.grownBy w' row) (hr:v.ownBlock=none∨v.ownBlock ≠ row):SRow TS base w' v ns:=⟨h.1.kept hg hr,h.2⟩
theorem SRow.below {TS:TypeId} {base:Nat} {w w':World} {v:Value} {ns:List ByteArray} (h:SRow TS base w v ns) (hb:Below w.heap.size w w'):SRow TS base w' v ns:=
 h.kept (grown_of_below hb (Lr _) none) (by cases e:v.ownBlock with | none=>exact .inl rfl | some b=>exact .inr (by simp))
theorem SRow.push {TS:TypeId} {base:Nat} {w w2:World} {v v':Value} {ns:List ByteArray} {s:ByteArray} (h:SRow TS base w v ns) (hown:w2.ownsRow base TS 1 v' (ns.length+1) (ns.map Value.string++[.string s])) (hs:s.size≤maxLen - 2):SRow TS base w2 v' (ns++[s]):=by
 refine ⟨by rw [Lg,List.map_append];exact hown,fun x hx=>?_⟩
 rcases List.mem_append.1 hx with hx | hx
 ·exact h.2 x hx
 ·cases List.mem_singleton.1 hx;exact hs
theorem SRow.strs {TS:TypeId} {base:Nat} {w:World} {v:Value} {ns:List ByteArray} (h:SRow TS base w v ns):StrsIn (fun b=>base≤b∧b<w.heap.size) w v ns:=by
 obtain ⟨h1,h2⟩:=h
 rcases h1.2 with ⟨rfl,h0⟩ | ⟨g,cap,cur,rfl,hb,hg,hnc,hcm,hcs,hcu⟩
 ·have hn:ns=[]:=List.length_eq_zero_iff.1 h0
  subst hn
  exact StrsIn.nil _ _
 ·refine ⟨_,cap,rfl,hnc,hcm,fun j s hj=>⟨g,0,rfl,⟨hb,lt_of_block hg⟩,?_,h2 s (List.mem_of_getElem? hj)⟩⟩
  have:=h1.cells (g:=g) rfl j (.string s) (by rw [List.getElem?_map,hj];rfl)
  rw [Addr.add_lit] at this;exact this
abbrev NC:=List Value × ND
def nCells (A:List NC):List Value:=A.flatMap fun x=>x.1
def nodesOf (A:List NC):List ND:=A.map fun x=>x.2
theorem nCells_append (a b:List NC):nCells (a++b)=nCells a++nCells b:=by simp [nCells]
theorem nCells_at:∀ {A:List NC} {j:Nat} {cs:List Value} {x:ND},(∀y,y ∈ A→y.1.length=6)→A[j]?=some (cs,x)→∀f u,cs[f]?=some u→(nCells A)[j * 6+f]?=some u
 | [],_,_,_,_,h,_,_,_=>by simp at h
 | y::t,0,cs,x,hl,h,f,u,hu=>by
  simp at h
  subst h
  have hf:f<cs.length:=by
   rcases Nat.lt_or_ge f cs.length with h' | h'
   ·exact h'
   ·rw [List.getElem?_eq_none h'] at hu;cases hu
  have e:nCells ((cs,x)::t)=cs++nCells t:=by simp [nCells]
  rw [e,Nat.zero_mul,Nat.zero_add,List.getElem?_append_left hf]
  exact hu
 | y::t,j+1,cs,x,hl,h,f,u,hu=>by
  have ih:=nCells_at (A:=t) (j:=j) (fun z hz=>hl z (by simp [hz])) (by simpa using h) f u hu
  have e:nCells (y::t)=y.1++nCells t:=by simp [nCells]
  have hy:=hl y (by simp)
  rw [e,List.getElem?_append_right (by omega),hy,show (j+1) * 6+f - 6=j * 6+f by omega]
  exact ih
def NRow (TN:TypeId) (d base:Nat) (X:Option Nat) (w:World) (v:Value) (A:List NC):Prop:=
 w.ownsRow base TN 6 v A.length (nCells A)∧(∀b,X=some b→v.ownBlock ≠ some b)∧∀x,x ∈ A→NodeIn d (fun b=>base≤b∧b<w.heap.size∧v.ownBlock ≠ some b∧X ≠ some b) w x.1 x.2
theorem NRow.nil (TN:TypeId) (d base:Nat) (X:Option Nat) (w:World):NRow TN d base X w (.slice none 0 0) []:=⟨World.ownsRow_nil w _ _ _,fun b _ e=>by simp [Value.ownBlock] at e,fun x hx=>by cases hx⟩
theorem NRow.kept {TN:TypeId} {d base:Nat} {X X':Option Nat} {w w':World} {v:Value} {A:List NC} {row:Option Nat} (h:NRow TN d base X w v A) (hg:w.grownBy w' row) (hr:∀r,row=some r→r<base∨X=some r) (hX:X'=X∨∀b,X'=some b→w.heap.size≤b):NRow TN d base X' w' v A:=by
 obtain ⟨h1,h0,h2⟩:=h
 refine ⟨h1.kept hg ?_,?_,fun x hx=>?_⟩
 ·cases e:v.ownBlock with
  | none=>exact .inl rfl
  | some b=>
   refine .inr fun e'=>?_
   have:=(h1.lt b e).1
   rcases hr b e'.symm with hr | hr
   ·omega
   ·exact h0 b hr e
 ·intro b hb e
  rcases hX with rfl | hX
  ·exact h0 b hb e
  ·have:=hX b hb
   have:=(h1.lt b e).2
   omega
 ·refine ((h2 x hx).same (w':=w') fun b hb=>hg.block b hb.2.1 fun e=>?_).mono fun b hb=>⟨hb.1,Ll hb.2.1 hg.size,hb.2.2.1,fun e=>?_⟩
  ·rcases hr b e.symm with hr | hr
   ·omega
   ·exact hb.2.2.2 hr
  ·rcases hX with rfl | hX
   ·exact hb.2.2.2 e
   ·have:=hX b e
    omega
theorem NRow.below {TN:TypeId} {d base:Nat} {X:Option Nat} {w w':World} {v:Value} {A:List NC} (h:NRow TN d base X w v A) (hb:Below w.heap.size w w'):NRow TN d base X w' v A:=
 h.kept (row:=none) ⟨hb.os,hb.tape,hb.output,hb.size,fun i hi _=>hb.block i hi⟩ (fun r e=>by cases e) (.inl rfl)
theorem NRow.push {TN:TypeId} {d base:Nat} {X:Option Nat} {w w2:World} {v v':Value} {A:List NC} {cs:List Value} {x:ND} (h:NRow TN d base X w v A)
 (hown:w2.ownsRow base TN 6 v' (A.length+1) (nCells A++cs)) (hg:w.grownBy w2 v.ownBlock) (hat:v'.ownBlock=v.ownBlock∨∀b,v'.ownBlock=some b→w.heap.size≤b) (hXw:∀b,X=some b→b<w.heap.size)
 (hp:NodeIn d (fun b=>base≤b∧b<w.heap.size∧v.ownBlock ≠ some b∧X ≠ some b) w cs x):NRow TN d base X w2 v' (A++[(cs,x)]):=by
 obtain ⟨h1,h0,h2⟩:=h
 have key:∀ (cs:List Value) (x:ND),NodeIn d (fun b=>base≤b∧b<w.heap.size∧v.ownBlock ≠ some b∧X ≠ some b) w cs x→NodeIn d (fun b=>base≤b∧b<w2.heap.size∧v'.ownBlock ≠ some b∧X ≠ some b) w2 cs x:=by
  intro cs x q
  refine (q.same (w':=w2) fun b hb=>hg.block b hb.2.1 fun e=>hb.2.2.1 e.symm).mono fun b hb=>⟨hb.1,Ll hb.2.1 hg.size,fun e'=>?_,hb.2.2.2⟩
  rcases hat with ha | ha
  ·rw [ha] at e';exact hb.2.2.1 e'
  ·have:=ha b e'
   omega
 refine ⟨?_,?_,fun y hy=>?_⟩
 ·rw [Lg,nCells_append]
  simpa [nCells] using hown
 ·intro b hb e
  rcases hat with ha | ha
  ·rw [ha] at e;exact h0 b hb e
  ·have:=ha b e
   have:=hXw b hb
   omega
 ·rcases List.mem_append.1 hy with hy | hy
  ·exact key _ _ (h2 y hy)
  ·cases List.mem_singleton.1 hy
   exact key _ _ hp
theorem NRow.nodes {TN:TypeId} {d base:Nat} {X:Option Nat} {w:World} {v:Value} {A:List NC} (h:NRow TN d base X w v A):NodesIn (NodeIn d (fun b=>base≤b∧b<w.heap.size) w) (fun b=>base≤b∧b<w.heap.size) w v (nodesOf A):=by
 obtain ⟨h1,h0,h2⟩:=h
 have hl:(nodesOf A).length=A.length:=by simp [nodesOf]
 have h6:∀y,y ∈ A→y.1.length=6:=fun y hy=>(h2 y hy).len
 rcases h1.2 with ⟨rfl,hA0⟩ | ⟨g,cap,cur,rfl,hb,hg,hnc,hcm,hcs,hcu⟩
 ·have hn:A=[]:=List.length_eq_zero_iff.1 hA0
  subst hn
  exact NodesIn.nil _ _ _
 ·refine ⟨_,cap,by rw [hl],by omega,hcm,fun j x hj=>?_⟩
  have hj':j<A.length:=by
   rcases Nat.lt_or_ge j A.length with h' | h'
   ·exact h'
   ·rw [List.getElem?_eq_none (by omega)] at hj;cases hj
  have e:A[j]?=some (A[j].1,A[j].2):=by rw [List.getElem?_eq_getElem hj']
  have hx:x=A[j].2:=by
   rw [nodesOf,List.getElem?_map,e] at hj
   exact (Option.some.inj hj).symm
  subst hx
  refine ⟨g,0,A[j].1,rfl,⟨hb,lt_of_block hg⟩,fun f u hu=>?_,(h2 _ (List.getElem_mem hj')).mono fun b hb=>⟨hb.1,hb.2.1⟩⟩
  have:=h1.cells (g:=g) rfl _ _ (nCells_at h6 e f u hu)
  rw [Addr.add_lit,←Nat.add_assoc] at this;exact this
theorem heap_set {w:World} {g j:Nat} {cs:Array Value} {T:TypeId} (h:w.heap[g]?=some (.cells cs T (0,0))) (x:Value):(w.setCell ⟨g,j,none⟩ x).heap[g]?=some (.cells (cs.setIfInBounds j x) T (0,0)):=by
 have hlt:=lt_of_block h
 have h':w.heap[g]=.cells cs T (0,0):=by simpa [Array.getElem?_eq_getElem hlt] using h
 show (w.heap.modify g _)[g]?=_
 rw [Array.getElem?_eq_getElem (by simpa using hlt),Array.getElem_modify_self,h']
 rfl
section
variable {w:World} {g:Nat} {a b c d e f:Value} {T:TypeId}
theorem six_of (h:w.heap[g]?=some (.cells #[a,b,c,d,e,f] T (0,0))):w.cell? ⟨g,0,none⟩=some a∧w.cell? ⟨g,1,none⟩=some b∧w.cell? ⟨g,2,none⟩=some c∧w.cell? ⟨g,3,none⟩=some d∧w.cell? ⟨g,4,none⟩=some e∧w.cell? ⟨g,5,none⟩=some f:=by
 simp [World.cell?,h]
theorem free_six (h:w.heap[g]?=some (.cells #[a,b,c,d,e,f] T (0,0))):w.frozen? ⟨g,0,none⟩=false∧w.frozen? ⟨g,1,none⟩=false∧w.frozen? ⟨g,2,none⟩=false∧w.frozen? ⟨g,3,none⟩=false∧w.frozen? ⟨g,4,none⟩=false∧w.frozen? ⟨g,5,none⟩=false:=by
 simp [World.frozen?,h]
theorem six_set0 (h:w.heap[g]?=some (.cells #[a,b,c,d,e,f] T (0,0))) (x:Value):(w.setCell ⟨g,0,none⟩ x).heap[g]?=some (.cells #[x,b,c,d,e,f] T (0,0)):=heap_set h x
theorem six_set1 (h:w.heap[g]?=some (.cells #[a,b,c,d,e,f] T (0,0))) (x:Value):(w.setCell ⟨g,1,none⟩ x).heap[g]?=some (.cells #[a,x,c,d,e,f] T (0,0)):=heap_set h x
theorem six_set2 (h:w.heap[g]?=some (.cells #[a,b,c,d,e,f] T (0,0))) (x:Value):(w.setCell ⟨g,2,none⟩ x).heap[g]?=some (.cells #[a,b,x,d,e,f] T (0,0)):=heap_set h x
theorem six_set3 (h:w.heap[g]?=some (.cells #[a,b,c,d,e,f] T (0,0))) (x:Value):(w.setCell ⟨g,3,none⟩ x).heap[g]?=some (.cells #[a,b,c,x,e,f] T (0,0)):=heap_set h x
theorem six_set4 (h:w.heap[g]?=some (.cells #[a,b,c,d,e,f] T (0,0))) (x:Value):(w.setCell ⟨g,4,none⟩ x).heap[g]?=some (.cells #[a,b,c,d,x,f] T (0,0)):=heap_set h x
theorem six_set5 (h:w.heap[g]?=some (.cells #[a,b,c,d,e,f] T (0,0))) (x:Value):(w.setCell ⟨g,5,none⟩ x).heap[g]?=some (.cells #[a,b,c,d,e,x] T (0,0)):=heap_set h x
def set6 (w:World) (g:Nat) (a b c d e f:Value):World:=(((((w.setCell ⟨g,0,none⟩ a).setCell ⟨g,1,none⟩ b).setCell ⟨g,2,none⟩ c).setCell ⟨g,3,none⟩ d).setCell ⟨g,4,none⟩ e).setCell ⟨g,5,none⟩ f
theorem six_put (h:w.heap[g]?=some (.cells #[a,b,c,d,e,f] T (0,0))) (a' b' c' d' e' f':Value):(set6 w g a' b' c' d' e' f').heap[g]?=some (.cells #[a',b',c',d',e',f'] T (0,0)):=
 six_set5 (six_set4 (six_set3 (six_set2 (six_set1 (six_set0 h a') b') c') d') e') f'
theorem grown_set (w:World) (g j:Nat) (v:Value):w.grownBy (w.setCell ⟨g,j,none⟩ v) (some g):=
 ⟨rfl,rfl,rfl,by simp,fun i hi hne=>heap_setCell_other w ⟨g,j,none⟩ i v (show i ≠ g from fun e=>hne (by rw [e]))⟩
theorem grown_set6 (w:World) (g:Nat) (a b c d e f:Value):w.grownBy (set6 w g a b c d e f) (some g):=
 gtrans (gtrans (gtrans (gtrans (gtrans (grown_set w g 0 a) (grown_set _ g 1 b)) (grown_set _ g 2 c)) (grown_set _ g 3 d)) (grown_set _ g 4 e)) (grown_set _ g 5 f)
end
theorem ret_node {f:Func} {Q:Ending→World→Prop} {a:Act} {w:World} {g c s:Nat} {x0 x1 x2 x3 x4 x5 v y0 y1 y2 y3 y4 y5:Value} (h:w.heap[g]?=some (.cells #[y0,y1,y2,y3,y4,y5] 28 (0,0))) (hres:f.results=#[.cell c 28,.tmp s]) (hc:a.tmps.getD c undef=.pointer (some ⟨g,0,none⟩)) (hs:a.tmps.getD s undef=v) (hd:a.defers=[])
 (hQ:Q (.returned (.tuple #[.agg #[x0,x1,x2,x3,x4,x5],v])) (set6 w g x0 x1 x2 x3 x4 x5)):bodyPost Tryz.prog f Q .ret a (set6 w g x0 x1 x2 x3 x4 x5):=by
 refine bodyPost_ret (v:=.tuple #[.agg #[x0,x1,x2,x3,x4,x5],v]) ?_ hd hQ
 obtain ⟨q0,q1,q2,q3,q4,q5⟩:=six_of (six_put h x0 x1 x2 x3 x4 x5)
 obtain ⟨tm,df⟩:=a
 simp only [Array.getD_eq_getD_getElem?] at hc hs
 simp [results,hres,go_sem,hc,hs,q0,q1,q2,q3,q4,q5]
end Go.Proofs.YtcklddldejejcaaGreatDoor