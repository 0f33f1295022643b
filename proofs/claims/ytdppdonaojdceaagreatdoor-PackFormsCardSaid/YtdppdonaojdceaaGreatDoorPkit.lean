/- The plain mathematics of base 64 digits: the alphabet, the table of values, and what both say of one another. Nothing of the program is imported. Then: What the two directions of base 64 say of one another: digits of numbers, texts of bytes. Nothing of the program is imported. Then: Primitives as plain functions: codes, sizes, texts. Nothing of the program is imported. -/
import Derived.Test.YtdppdonaojdceaaGreatDoorAa
import Derived.Test.YtdppdonaojdceaaGreatDoorRows
import Derived.WalkKit
import Derived.ArgAppend
import Derived.Deep.Upon
import Derived.Lib.Hide
import Derived.Laws.IdiomStrings
import Derived.Deep.QuietTactic
import Derived.BigQuiet
import Derived.Deep.RegionLaw
import Derived.ProofKit
import Derived.OpenShut
import Derived.ChangeOld
import Derived.WalkSpells
import Derived.WalkLawsBesides
import Derived.Outline
import Derived.Deep.RegionHeld3
import Derived.OneCell
import Derived.Laws.StructEq
import Derived.StillTailTactics
import Derived.LaidMore
import Derived.Lib.LaidTab
import Derived.Stop.Joined
import Derived.Deep.DeepCutAuto
set_option linter.unusedVariables false
set_option linter.unusedSimpArgs false
set_option maxRecDepth 100000
set_option maxHeartbeats 800000
namespace Go.Proofs.YtdppdonaojdceaaGreatDoor
open Go
def bytesV (l:List UInt8):List Value:=l.map fun b=>Value.int .u8 (b.toNat:Int)
theorem bytesV_append (a b:List UInt8):bytesV (a++b)=bytesV a++bytesV b:=by simp [bytesV]
where byts (n:Nat):List UInt8:=[UInt8.ofNat (n / 65536),UInt8.ofNat (n / 256),UInt8.ofNat n]
end Go.Proofs.YtdppdonaojdceaaGreatDoor
namespace Go.Proofs.YtdppdonaojdceaaGreatDoor
open Go Go.RowKit
def Row (w:World) (g:Nat) (T:TypeId) (cap:Nat) (xs:List Value):Prop:=
 ∃ (cur:Array Value) (fr:Nat × Nat),w.heap[g]?=some (.cells cur T fr)∧cap≤cur.size∧xs.length≤cap∧cur.toList.take xs.length=xs∧(fr=(0,0)∨cap≤fr.1)
theorem Row.cellAt {w:World} {g:Nat} {T:TypeId} {cap:Nat} {xs:List Value} (h:Row w g T cap xs) {j:Nat} {u:Value} (hj:xs[j]?=some u):w.cell? ⟨g,j,none⟩=some u:=by
 obtain ⟨cur,fr,hh,hc,hl,ht,hf⟩:=h
 have hlt:j<xs.length:=by
  rcases Nat.lt_or_ge j xs.length with h | h
  ·exact h
  ·simp [List.getElem?_eq_none h] at hj
 have:cur[j]?=some u:=by
  rw [←hj,←ht,List.getElem?_take,if_pos (by omega)]
  simp
 simp [World.cell?,hh,this]
theorem Row.of_owns {w:World} {base g n k cap:Nat} {e:TypeId} {xs:List Value} (h:w.ownsRow base e 1 (.slice (some ⟨g,0,none⟩) k cap) n xs):Row w g e cap xs∧xs.length=n∧base≤g∧cap≤maxLen∧k=n:=by
 obtain ⟨hl,h | ⟨g',cap',cur,hv,hg,hh,hn,hm,hs,ht⟩⟩:=h
 ·simp at h
 ·simp only [Value.slice.injEq,Option.some.injEq,Addr.mk.injEq] at hv
  obtain ⟨⟨rfl,_⟩,rfl,rfl⟩:=hv
  have e1:xs.length=k:=by simpa using hl
  refine ⟨⟨cur,(0,0),hh,by simp at hs;omega,by omega,?_,.inl rfl⟩,e1,hg,hm,rfl⟩
  rw [e1];simpa using ht
theorem gtrans {a b c:World} {row:Option Nat} (h:a.grownBy b row) (k:b.grownBy c row):a.grownBy c row:=
 ⟨k.os.trans h.os,k.tape.trans h.tape,k.output.trans h.output,Nat.le_trans h.size k.size,fun i hi hne=>(k.block i (Ll hi h.size) hne).trans (h.block i hi hne)⟩
theorem galloc (w:World) (o:Obj) (row:Option Nat):w.grownBy (w.alloc o) row:=
 ⟨rfl,rfl,rfl,by simp,fun k hk _=>Below.heap_alloc w o k hk⟩
theorem gbelow {W a b:World} {B g:Nat} (h:Below B W a) (k:a.grownBy b (some g)) (hB:B≤a.heap.size) (hg:B≤g):Below B W b:=
 h.grown k hB (fun _ e=>by cases e;exact hg)
theorem conv_row {P:Program} (w:World) (src dst e:TypeId) (g:Nat) (T:TypeId) (k cap:Nat) {cap':Nat} (l:List UInt8) (hk:l.length=k) (hr:Row w g T cap' (l.map fun b=>Value.int .u8 (b.toNat:Int)))
 (hs:P.underlying src=some (.slice e)) (he:P.underlying e=some (.int .u8)) (hd:P.underlying dst=some .string) :
 (convert src dst (.slice (some ⟨g,0,none⟩) k cap)).run P w=.ok (.string ⟨l.toArray⟩) w:=by
 subst hk
 refine run_convert_bytes_back w src dst e ⟨g,0,none⟩ cap l hs he hd fun j hj=>?_
 rw [Addr.add_lit]
 simpa using hr.cellAt (j:=j) (u:=.int .u8 (l[j].toNat:Int)) (by simp [hj])
theorem conv_owns {P:Program} (w:World) (src dst e:TypeId) (base n:Nat) (v:Value) (l:List UInt8) (h:w.ownsRow base e 1 v n (l.map fun b=>Value.int .u8 (b.toNat:Int)))
 (hs:P.underlying src=some (.slice e)) (he:P.underlying e=some (.int .u8)) (hd:P.underlying dst=some .string) :
 (convert src dst v).run P w=.ok (.string ⟨l.toArray⟩) w:=by
 obtain ⟨hl,⟨rfl,rfl⟩ | ⟨g,cap,cur,rfl,r⟩⟩:=h
 ·have:l=[]:=List.length_eq_zero_iff.1 (by simpa using hl)
  subst this
  rw [run_convert_bytes_string w src dst e none 0 0 hs he hd]
  simp [Conv.bytesToString]
  rfl
 ·have h':w.ownsRow base e 1 (.slice (some ⟨g,0,none⟩) n cap) n (l.map fun b=>Value.int .u8 (b.toNat:Int)):=⟨hl,.inr ⟨g,cap,cur,rfl,r⟩⟩
  obtain ⟨hr,hle,_⟩:=Row.of_owns h'
  exact conv_row w src dst e g e n cap l (by simpa using hle) hr hs he hd
theorem bdrewN {B:Nat} {a w:World} (h:Below B a w) (n:Nat):Below B a (w.drewN n):=⟨h.os,h.tape,h.output,h.size,h.block⟩
theorem cells_new (w:World) (cur:Array Value) (t:TypeId) (news:List Value) (h:cur.toList=news):∀j u,news[j]?=some u→(w.alloc (.cells cur t)).cell? ((⟨w.heap.size,0,none⟩:Addr).add j)=some u:=by
 intro j u hj
 subst h
 rw [Addr.add_lit]
 have hb:(w.alloc (.cells cur t)).heap[w.heap.size]?=some (.cells cur t (0,0)):=by show (w.heap.push _)[w.heap.size]?=_;simp
 simp only [World.cell?,hb,Nat.zero_add]
 simpa using hj
theorem obelow {B:Nat} {W a b:World} {e size n:Nat} {v:Value} {xs:List Value} (h:Below B W a) (hown:a.ownsRow B e size v n xs) (k:a.grownBy b v.ownBlock) (hB:B≤a.heap.size):Below B W b:=by
 refine h.grown k hB fun g hg=>?_
 obtain ⟨_,⟨rfl,_⟩ | ⟨g',cap,cur,rfl,hb,_⟩⟩:=hown
 ·simp [Value.ownBlock] at hg
 ·simp [Value.ownBlock] at hg;omega
theorem owns_below {w w':World} {B e size n:Nat} {v:Value} {xs:List Value} (h:w.ownsRow B e size v n xs) (hb:Below w.heap.size w w'):w'.ownsRow B e size v n xs:=by
 obtain ⟨h1,h2 | ⟨g,cap,cur,hv,hg,hh,r⟩⟩:=h
 ·exact ⟨h1,.inl h2⟩
 ·exact ⟨h1,.inr ⟨g,cap,cur,hv,hg,(hb.block g (lt_of_block hh)).trans hh,r⟩⟩
def IsRow (k:IntKind) (w:World) (a:Option Addr) (len cap:Nat) (zs:List Int):Prop:=
 len≤cap∧cap≤maxLen∧zs.length=cap∧(∀i,i<cap→∃b off,a=some ⟨b,off,none⟩∧b<w.heap.size∧w.cell? ⟨b,off+i,none⟩=some (.int k (zs.getD i 0)))∧∀n ∈ zs,(Lit.int k n).wf=true
theorem cell_lt {w:World} {a:Addr} {v:Value} (h:w.cell? a=some v):a.block<w.heap.size:=by
 rcases Nat.lt_or_ge a.block w.heap.size with h' | h'
 ·exact h'
 ·simp [World.cell?,Array.getElem?_eq_none h'] at h
open Go.ChangeShapes Go.WideShapes Go.ChangeAt in
theorem isRow_open {H:Type} {enc:TypeId × Value→H} {P:Program} {W:World} {t e:TypeId} {k:IntKind} {a:Option Addr} {len cap:Nat} {d:DataW H} {p:List MemPlace}
 (ht:P.underlying t=some (.slice e)) (he:P.underlying e=some (.int k)) (hce:P.cellsOf e=1) (h:DataW.Trod enc P W 0 (fun _=>true) true t (.slice a len cap) d p):∃zs,IsRow k W a len cap zs:=by
 obtain ⟨fuel,hf⟩:=h
 rcases open_ints ht he hce hf with ⟨hcs,_⟩ | ⟨x,l,c,zs,hcs,_,hl,hm,hz,_,hcell,hwz⟩
 ·simp [Value.cells] at hcs
  obtain ⟨rfl,rfl,rfl⟩:=hcs
  exact ⟨[],Lr _,Nat.zero_le _,rfl,fun i hi=>absurd hi (Nat.not_lt_zero _),fun n hn=>by cases hn⟩
 ·simp [Value.cells] at hcs
  obtain ⟨rfl,rfl,rfl⟩:=hcs
  refine ⟨zs,hl,hm,by simpa using hz,fun i hi=>?_,hwz⟩
  have hz':zs.length=cap:=by simpa using hz
  have hc:=hcell i (by omega)
  have hc0:=hcell 0 (by omega)
  obtain ⟨b,off,spot⟩:=x
  have hspot:spot=none:=by simpa [Addr.add] using World.cell?_spot hc0
  subst hspot
  rw [Addr.add_lit] at hc
  exact ⟨b,off,rfl,cell_lt hc,hc⟩
end Go.Proofs.YtdppdonaojdceaaGreatDoor
namespace Go.Proofs.YtdppdonaojdceaaGreatDoor
open Go.ChangeShapes Go.WideShapes Go.ChangeAt Go.RowKit
theorem Tryz.info5:(Tryz.prog.info? 5).map (fun i=>(i.zero,i.size,i.bytes))=some (some (.int .u8 0),1,1):=by kernel_rfl
end Go.Proofs.YtdppdonaojdceaaGreatDoor
namespace Go.Proofs.YtdppdonaojdceaaGreatDoor
open Go Go.RowKit
def IntsAt (B:Nat) (w:World) (v:Value) (l:List Int):Prop:=
 ∃ao cap,v=.slice ao l.length cap∧l.length≤cap∧∀j,j<l.length→∃b off,ao=some ⟨b,off,none⟩∧b<B∧w.cell? ⟨b,off+j,none⟩=some (.int .i64 (l.getD j 0))
section
variable {B C:Nat} {w w':World} {v:Value}
theorem cell_same {b o:Nat} (hb:w'.heap[b]?=w.heap[b]?):w'.cell? ⟨b,o,none⟩=w.cell? ⟨b,o,none⟩:=by simp only [World.cell?,hb]
theorem IntsAt.same {l:List Int} (h:IntsAt B w v l) (hb:∀j,j<B→w'.heap[j]?=w.heap[j]?) (hC:B≤C):IntsAt C w' v l:=by
 obtain ⟨ao,cap,h1,h2,h3⟩:=h
 refine ⟨ao,cap,h1,h2,fun j hj=>?_⟩
 obtain ⟨b,off,e,hB,hc⟩:=h3 j hj
 exact ⟨b,off,e,by omega,by rw [cell_same (hb b hB)];exact hc⟩
theorem IntsAt.below {l:List Int} (h:IntsAt B w v l) (hb:Below B w w'):IntsAt B w' v l:=h.same hb.block (Lr _)
end
def badMark (k n:Int):Prop:=k<1∨4<k∨n<0∨4095<n
instance (k n:Int):Decidable (badMark k n):=by unfold badMark;infer_instance
end Go.Proofs.YtdppdonaojdceaaGreatDoor
namespace Go.Proofs.YtdppdonaojdceaaGreatDoor
open Go.ChangeShapes Go.WideShapes Go.ChangeAt Go.RowKit
theorem two_of {w:World} {g:Nat} {u v:Value} {T:TypeId} (h:w.heap[g]?=some (.cells #[u,v] T (0,0))):w.cell? ⟨g,0,none⟩=some u∧w.cell? ⟨g,1,none⟩=some v:=by
 constructor <;> simp [World.cell?,h]
theorem two_set0 {w:World} {g:Nat} {u v:Value} {T:TypeId} (h:w.heap[g]?=some (.cells #[u,v] T (0,0))) (x:Value):(w.setCell ⟨g,0,none⟩ x).heap[g]?=some (.cells #[x,v] T (0,0)):=by
 have hlt:=lt_of_block h
 have h':w.heap[g]=.cells #[u,v] T (0,0):=by simpa [Array.getElem?_eq_getElem hlt] using h
 show (w.heap.modify g _)[g]?=_
 rw [Array.getElem?_eq_getElem (by simpa using hlt),Array.getElem_modify_self,h']
 rfl
theorem two_set1 {w:World} {g:Nat} {u v:Value} {T:TypeId} (h:w.heap[g]?=some (.cells #[u,v] T (0,0))) (x:Value):(w.setCell ⟨g,1,none⟩ x).heap[g]?=some (.cells #[u,x] T (0,0)):=by
 have hlt:=lt_of_block h
 have h':w.heap[g]=.cells #[u,v] T (0,0):=by simpa [Array.getElem?_eq_getElem hlt] using h
 show (w.heap.modify g _)[g]?=_
 rw [Array.getElem?_eq_getElem (by simpa using hlt),Array.getElem_modify_self,h']
 rfl
theorem two_put {w:World} {g:Nat} {u v:Value} {T:TypeId} (h:w.heap[g]?=some (.cells #[u,v] T (0,0))) (x y:Value):(w.setCell ⟨g,0,none⟩ x).cell? ⟨g,0,none⟩=some x∧((w.setCell ⟨g,0,none⟩ x).setCell ⟨g,1,none⟩ y).cell? ⟨g,1,none⟩=some y:=
 ⟨(two_of (two_set0 h x)).1,(two_of (two_set1 (two_set0 h x) y)).2⟩
theorem free_two {w:World} {g:Nat} {u v:Value} {T:TypeId} (h:w.heap[g]?=some (.cells #[u,v] T (0,0))):w.frozen? ⟨g,0,none⟩=false∧w.frozen? ⟨g,1,none⟩=false:=by
 constructor <;> simp [World.frozen?,h]
theorem w64 (n:Int) (h:-9223372036854775808≤n∧n≤9223372036854775807):IntKind.i64.wrap n=n:=by rw [IntKind.wrap_i64];omega
theorem mod_any (n:Int) (m:Nat) (w:World) (h1:1≤m) (hm:m<2 ^ 62) (hlo:-9223372036854775808≤n) (hhi:n≤9223372036854775807) :
 Calls Tryz.prog 33 #[.int .i64 n,.int .i64 m] w fun e w'=>e=.returned (.int .i64 (n % (m:Int)))∧w=w':=by
 obtain ⟨r,hr⟩:∃r,r=n.tmod (m:Int):=⟨_,rfl⟩
 have h0:¬ (m:Int)=0:=by omega
 have hr1:-(m:Int)<r:=by
  rw [hr]
  have a1:=Int.lt_tmod_of_pos n (b:=(m:Int)) (by omega)
  omega
 have hr2:r<(m:Int):=by rw [hr];exact Int.tmod_lt_of_pos n (by omega)
 have hfin:(r+(m:Int)) % (m:Int)=n % (m:Int):=by
  rw [hr,Int.add_emod_right,Int.tmod_eq_emod]
  split
  ·simp
  ·rw [Int.sub_emod]
   simp
 have hfin2:r % (m:Int)=n % (m:Int):=by rw [←hfin];simp
 have HF2:=Hh hfin2
 have HF:=Hh hfin
 have hr':n.tmod (m:Int)=r:=hr.symm
 have hmz:((m:Int) == 0)=false:=by simp;omega
 clear hr hfin hfin2
 by_cases hn:0≤n
 ·have hr3:n % (m:Int)=r:=by rw [←hr',Int.tmod_eq_emod,if_pos (.inl hn)];simp
  go_enter Tryz.func33,Tryz.ntmps33
  go_wp2
  go_ret
  first | (rw [HF.out];exact ⟨rfl,rfl⟩) | (rw [HF2.out];exact ⟨rfl,rfl⟩)
 ·go_enter Tryz.func33,Tryz.ntmps33
  go_wp2
  go_ret
  first | (rw [HF.out];exact ⟨rfl,rfl⟩) | (rw [HF2.out];exact ⟨rfl,rfl⟩)
def NumsB (B:Nat) (w:World) (a:Option Addr) (len cap:Nat) (zs:List Int):Prop:=
 len≤cap∧cap≤maxLen∧(∀i,i<cap→∃b off,a=some ⟨b,off,none⟩∧b<B∧w.cell? ⟨b,off+i,none⟩=some (.int .i64 (zs.getD i 0)))∧∀i,-9223372036854775808≤zs.getD i 0∧zs.getD i 0≤9223372036854775807
theorem NumsB.of_row {w:World} {a:Option Addr} {len cap:Nat} {zs:List Int} (h:IsRow .i64 w a len cap zs):NumsB w.heap.size w a len cap zs:=by
 obtain ⟨h1,h2,h3,h4,h5⟩:=h
 refine ⟨h1,h2,h4,fun i=>?_⟩
 rcases Nat.lt_or_ge i zs.length with h | h
 ·have hm:zs.getD i 0 ∈ zs:=by rw [List.getD,List.getElem?_eq_getElem h];exact List.getElem_mem h
  exact bounds_i64 (h5 _ hm)
 ·rw [List.getD,List.getElem?_eq_none h];decide
theorem NumsB.same {B:Nat} {w w':World} {a:Option Addr} {len cap:Nat} {zs:List Int} (h:NumsB B w a len cap zs) (hb:∀j,j<B→w'.heap[j]?=w.heap[j]?):NumsB B w' a len cap zs:=by
 obtain ⟨h1,h2,h3,h4⟩:=h
 refine ⟨h1,h2,fun i hi=>?_,h4⟩
 obtain ⟨b,off,e,hbB,hc⟩:=h3 i hi
 refine ⟨b,off,e,hbB,?_⟩
 rw [←hc]
 simp only [World.cell?,hb b hbB]
def DiceAt (B:Nat) (w:World) (g:Nat):Prop:=
 ∃a len cap k zs,B≤g∧w.heap[g]?=some (.cells #[.slice a len cap,.int .i64 ((k:Nat):Int)] 44 (0,0))∧k≤len∧NumsB B w a len cap zs
theorem DiceAt.lt {B g:Nat} {w:World} (h:DiceAt B w g):g<w.heap.size:=by
 obtain ⟨_,_,_,_,_,_,h,_⟩:=h
 exact lt_of_block h
theorem DiceAt.same {B g:Nat} {w w':World} (h:DiceAt B w g) (hb:∀j,j≤g→w'.heap[j]?=w.heap[j]?):DiceAt B w' g:=by
 obtain ⟨a,len,cap,k,zs,hB,hh,hk,hn⟩:=h
 exact ⟨a,len,cap,k,zs,hB,(hb g (Lr _)).trans hh,hk,hn.same fun j hj=>hb j (by omega)⟩
theorem DiceAt.below {B g C:Nat} {w w':World} (h:DiceAt B w g) (hg:g<C) (hb:Below C w w'):DiceAt B w' g:=h.same fun j hj=>hb.block j (by omega)
theorem DiceAt.go {B g:Nat} {w w':World} (h:DiceAt B w g) (hb:Below w.heap.size w w'):DiceAt B w' g:=h.below h.lt hb
theorem grown_of_below {w w':World} {C:Nat} (hb:Below C w w') (hC:w.heap.size≤C) (row:Option Nat):w.grownBy w' row:=
 ⟨hb.os,hb.tape,hb.output,hb.size,fun i hi _=>hb.block i (by omega)⟩
theorem keepG {w w':World} {g h:Nat} {o:Obj} (hg:w.grownBy w' (some g)) (hne:h ≠ g) (hh:w.heap[h]?=some o):w'.heap[h]?=some o:=
 (hg.block h (lt_of_block hh) (by intro e;cases e;exact hne rfl)).trans hh
theorem light_any (a:Option Addr) (len cap:Nat) (w:World):Calls Tryz.prog 5 #[.slice a len cap] w fun e w'=>e=.returned (.bool (decide ((len:Int)≤500)))∧w=w':=by
 go_enter Tryz.func5,Tryz.ntmps5
 go_wp2
 go_ret
 exact ⟨rfl,rfl⟩
theorem roll_any (a:Option Addr) (len cap:Nat) (zs:List Int) (w:World) (h:NumsB w.heap.size w a len cap zs):Calls Tryz.prog 7 #[.slice a len cap] w fun e w'=>e=.returned (.pointer (some ⟨w.heap.size,0,none⟩))∧Below w.heap.size w w'∧DiceAt w.heap.size w' w.heap.size:=by
 have HN:=Hh h
 clear h
 go_enter Tryz.func7,Tryz.ntmps7
 go_wp2
 go_ret
 refine ⟨rfl,(Br _ _).alloc (Lr _) _,a,len,cap,0,zs,Lr _,Hn _ _,Nat.zero_le _,HN.out.same fun j hj=>?_⟩
 exact Below.heap_alloc _ _ j hj
theorem grown_set1 (w:World) (g:Nat) (v:Value):w.grownBy (w.setCell ⟨g,1,none⟩ v) (some g):=
 ⟨rfl,rfl,rfl,by simp [World.setCell],fun i _ hne=>heap_setCell_other w ⟨g,1,none⟩ i v (fun e=>hne (by rw [e]))⟩
theorem grown_drewN {a w:World} {row:Option Nat} (h:a.grownBy w row) (n:Nat):a.grownBy (w.drewN n) row:=⟨h.os,h.tape,h.output,h.size,h.block⟩
theorem next_any (B g:Nat) (n:Nat) (w:World) (h1:1≤n) (hn:n<2 ^ 62) (hd:DiceAt B w g):Calls Tryz.prog 19 #[.pointer (some ⟨g,0,none⟩),.int .i64 (n:Int)] w fun e w'=>(∃k:Nat,k<n∧e=.returned (.int .i64 (k:Int)))∧w.grownBy w' (some g)∧DiceAt B w' g:=by
 obtain ⟨a,len,cap,k,zs,hB,hh,hk,hN⟩:=hd
 have hc:=two_of hh
 have hf:=free_two hh
 have hN':=hN
 obtain ⟨hlc,hcm,hcell,hbd⟩:=hN
 unfold maxLen at hcm
 by_cases hlt:k<len
 ·obtain ⟨b,off,rfl,hbB,hcx⟩:=hcell k (by omega)
  obtain ⟨z,hz⟩:∃z,z=zs.getD k 0:=⟨_,rfl⟩
  have hzb:=hbd k
  rw [←hz] at hcx hzb
  have M:=Hh (fun (wx:World)=>mod_any z n wx h1 hn hzb.1 hzb.2)
  obtain ⟨m,hm⟩:∃m:Nat,z % (n:Int)=(m:Int):=⟨(z % (n:Int)).toNat,by have:=Int.emod_nonneg z (b:=(n:Int)) (by omega);omega⟩
  have hmn:m<n:=by have:=Int.emod_lt_of_pos z (b:=(n:Int)) (by omega);omega
  rw [hm] at M
  have HN:=Hh hN'
  have HH:=Hh hh
  have hne:b ≠ g:=by omega
  clear hN' hcell hbd hz hm hh
  go_enter Tryz.func19,Tryz.ntmps19
  have hkl:(k:Int)<(len:Int):=by omega
  have hkl2:k<len:=hlt
  go_wp2
  go_quiet (fail)
  go_wp2
  have hB1:=two_set1 (w:=w.drewN nq) HH.out (.int .i64 ((k:Int)+1))
  have hs1:=two_of hB1
  have hcx1:((w.drewN nq).setCell ⟨g,1,none⟩ (.int .i64 ((k:Int)+1))).cell? ⟨b,off+k,none⟩=some (.int .i64 z):=by
   rw [←hcx]
   simp only [World.cell?,heap_setCell_other (w.drewN nq) ⟨g,1,none⟩ b _ hne]
   rfl
  have ek:(k:Int)+1 - 1=(k:Int):=by omega
  have e1:IntKind.i64.wrap ((k:Int)+1 - 1)=(k:Int):=by rw [ek];exact w64 _ (by omega)
  have gg:=gtrans (grown_drewN (World.grownBy.refl w (some g)) nq) (grown_set1 (w.drewN nq) g (.int .i64 ((k:Int)+1)))
  have hk0:(0:Int)≤(k:Int):=by omega
  have hd0:=hs1.1
  have hd1:=hs1.2
  have HB1:=Hh hB1
  have HD:=Hh (HN.out.same (w':=(w.drewN nq).setCell ⟨g,1,none⟩ (.int .i64 ((k:Int)+1))) fun j hj=>heap_setCell_other (w.drewN nq) ⟨g,1,none⟩ j _ (show j ≠ g by omega))
  clear hc hcx hs1 hB1
  go_quiet (first | (go_at_call 33;(with_reducible refine (M.out _).mono ?_);exact fun e u h=>⟨h.1,_,h.2.symm⟩))
  go_wp2
  go_ret
  refine ⟨⟨m,hmn,rfl⟩,grown_drewN gg _,_,len,cap,k+1,zs,hB,HB1.out,by omega,HD.out⟩
 ·have HN:=Hh hN'
  have HH:=Hh hh
  have hge:(len:Int)≤(k:Int):=by omega
  have hge2:len≤k:=by omega
  clear hN' hcell hbd hh
  go_enter Tryz.func19,Tryz.ntmps19
  go_wp2
  go_quiet (fail)
  go_wp2
  go_ret
  refine ⟨⟨0,by omega,rfl⟩,grown_drewN (World.grownBy.refl w _) _,a,len,cap,k,zs,hB,HH.out,by omega,HN.out⟩
theorem owns_grown {w w':World} {C e size n g:Nat} {v:Value} {xs:List Value} (h:w.ownsRow C e size v n xs) (hg:w.grownBy w' (some g)) (hlt:g<C):w'.ownsRow C e size v n xs:=by
 obtain ⟨h1,h2 | ⟨g',cap,cur,hv,hC,hh,r⟩⟩:=h
 ·exact ⟨h1,.inl h2⟩
 ·exact ⟨h1,.inr ⟨g',cap,cur,hv,hC,keepG hg (by omega) hh,r⟩⟩
theorem own_kept {a b:World} {C e size n:Nat} {v:Value} {xs:List Value} (h:a.ownsRow C e size v n xs) (k:a.grownBy b v.ownBlock) (j:Nat) (hj:j<C) (hs:j<a.heap.size):b.heap[j]?=a.heap[j]?:=by
 refine k.block j hs fun e=>?_
 obtain ⟨_,⟨rfl,_⟩ | ⟨g',cap,cur,rfl,hC,_⟩⟩:=h
 ·simp [Value.ownBlock] at e
 ·simp [Value.ownBlock] at e;omega
theorem grown_own {W a b:World} {C e size n:Nat} {v:Value} {xs:List Value} {row:Option Nat} (h:W.grownBy a row) (hown:a.ownsRow C e size v n xs) (k:a.grownBy b v.ownBlock) (hC:W.heap.size≤C):W.grownBy b row:=
 ⟨k.os.trans h.os,k.tape.trans h.tape,k.output.trans h.output,Nat.le_trans h.size k.size,fun j hj hne=>(own_kept hown k j (by omega) (Ll hj h.size)).trans (h.block j hj hne)⟩
theorem next_lit (B g:Nat) (n:Nat) (z:Int) (hz:(n:Int)=z) (w:World) (h1:1≤n) (hn:n<2 ^ 62) (hd:DiceAt B w g):Calls Tryz.prog 19 #[.pointer (some ⟨g,0,none⟩),.int .i64 z] w fun e w'=>(∃k:Nat,k<n∧e=.returned (.int .i64 (k:Int)))∧w.grownBy w' (some g)∧DiceAt B w' g:=hz ▸ next_any B g n w h1 hn hd
def strSize:Value→Nat
 | .string s=>s.size
 | _=>0
theorem DiceAt.setNew {B g:Nat} {w:World} (h:DiceAt B w g) {k:Nat} (hk:g<k) (o:Nat) (v:Value):DiceAt B (w.setCell ⟨k,o,none⟩ v) g:=
 h.same fun j hj=>heap_setCell_other w ⟨k,o,none⟩ j v (show j ≠ k by omega)
end Go.Proofs.YtdppdonaojdceaaGreatDoor