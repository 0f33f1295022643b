/- Rows of memory: a block whose first cells are known, none frozen; what appending within its capacity, new blocks and writes elsewhere do to it. For every program. -/
import Derived.Test.YtcklddldejejcaaGreatDoorAa
import Derived.Test.YtcklddldejejcaaGreatDoorRows
import Derived.Test.YtcklddldejejcaaGreatDoorProg
import Derived.WalkKit
import Derived.ArgAppend
import Derived.Deep.Upon
import Derived.Lib.Hide
import Derived.Laws.IdiomStrings
import Derived.Deep.QuietTactic
import Derived.BigQuiet
import Derived.Deep.RegionLaw
import Derived.ProofKit
import Derived.OpenShut
import Derived.ChangeOld
import Derived.Laws.Rows
import Derived.Laws.Tables
import Derived.WalkSpells
import Derived.WalkLawsBesides
import Derived.Outline
import Derived.LaidMore
import Derived.Lib.LaidTab
import Derived.Stop.Joined
import Derived.Shelf.Unicode.ValidAny
import Derived.Lib.LaidU8T
import Derived.Laws.BitsAllLaws
import Derived.Deep.WholeRow
import Derived.BigRegion
import Derived.StillTailTactics
import Derived.Shelf.Strconv.Itoa3
import Derived.Lib.AppendIntMem
import Derived.Stop.LaidErr
import GoSem.PinnedTables
import Derived.Lay
import Derived.KernelRfl
set_option linter.unusedVariables false
set_option linter.unusedSimpArgs false
namespace Go.Proofs.YtcklddldejejcaaGreatDoor
open Go Go.RowKit
def Row (w:World) (g:Nat) (T:TypeId) (cap:Nat) (xs:List Value):Prop:=
 ∃ (cur:Array Value) (fr:Nat × Nat),w.heap[g]?=some (.cells cur T fr)∧cap≤cur.size∧xs.length≤cap∧cur.toList.take xs.length=xs∧(fr=(0,0)∨cap≤fr.1)
theorem Row.cellAt {w:World} {g:Nat} {T:TypeId} {cap:Nat} {xs:List Value} (h:Row w g T cap xs) {j:Nat} {u:Value} (hj:xs[j]?=some u):w.cell? ⟨g,j,none⟩=some u:=by
 obtain ⟨cur,fr,hh,hc,hl,ht,hf⟩:=h
 have hlt:j<xs.length:=by
  rcases Nat.lt_or_ge j xs.length with h | h
  ·exact h
  ·simp [List.getElem?_eq_none h] at hj
 have:cur[j]?=some u:=by
  rw [←hj,←ht,List.getElem?_take,if_pos (by omega)]
  simp
 simp [World.cell?,hh,this]
theorem Row.of_owns {w:World} {base g n k cap:Nat} {e:TypeId} {xs:List Value} (h:w.ownsRow base e 1 (.slice (some ⟨g,0,none⟩) k cap) n xs):Row w g e cap xs∧xs.length=n∧base≤g∧cap≤maxLen∧k=n:=by
 obtain ⟨hl,h | ⟨g',cap',cur,hv,hg,hh,hn,hm,hs,ht⟩⟩:=h
 ·simp at h
 ·simp only [Value.slice.injEq,Option.some.injEq,Addr.mk.injEq] at hv
  obtain ⟨⟨rfl,_⟩,rfl,rfl⟩:=hv
  have e1:xs.length=k:=by simpa using hl
  refine ⟨⟨cur,(0,0),hh,by simp at hs;omega,by omega,?_,.inl rfl⟩,e1,hg,hm,rfl⟩
  rw [e1];simpa using ht
theorem gtrans {a b c:World} {row:Option Nat} (h:a.grownBy b row) (k:b.grownBy c row):a.grownBy c row:=
 ⟨k.os.trans h.os,k.tape.trans h.tape,k.output.trans h.output,Nat.le_trans h.size k.size,fun i hi hne=>(k.block i (Ll hi h.size) hne).trans (h.block i hi hne)⟩
theorem galloc (w:World) (o:Obj) (row:Option Nat):w.grownBy (w.alloc o) row:=
 ⟨rfl,rfl,rfl,by simp,fun k hk _=>Below.heap_alloc w o k hk⟩
theorem gbelow {W a b:World} {B g:Nat} (h:Below B W a) (k:a.grownBy b (some g)) (hB:B≤a.heap.size) (hg:B≤g):Below B W b:=
 h.grown k hB (fun _ e=>by cases e;exact hg)
theorem conv_row {P:Program} (w:World) (src dst e:TypeId) (g:Nat) (T:TypeId) (k cap:Nat) {cap':Nat} (l:List UInt8) (hk:l.length=k) (hr:Row w g T cap' (l.map fun b=>Value.int .u8 (b.toNat:Int)))
 (hs:P.underlying src=some (.slice e)) (he:P.underlying e=some (.int .u8)) (hd:P.underlying dst=some .string) :
 (convert src dst (.slice (some ⟨g,0,none⟩) k cap)).run P w=.ok (.string ⟨l.toArray⟩) w:=by
 subst hk
 refine run_convert_bytes_back w src dst e ⟨g,0,none⟩ cap l hs he hd fun j hj=>?_
 rw [Addr.add_lit]
 simpa using hr.cellAt (j:=j) (u:=.int .u8 (l[j].toNat:Int)) (by simp [hj])
theorem conv_owns {P:Program} (w:World) (src dst e:TypeId) (base n:Nat) (v:Value) (l:List UInt8) (h:w.ownsRow base e 1 v n (l.map fun b=>Value.int .u8 (b.toNat:Int)))
 (hs:P.underlying src=some (.slice e)) (he:P.underlying e=some (.int .u8)) (hd:P.underlying dst=some .string) :
 (convert src dst v).run P w=.ok (.string ⟨l.toArray⟩) w:=by
 obtain ⟨hl,⟨rfl,rfl⟩ | ⟨g,cap,cur,rfl,r⟩⟩:=h
 ·have:l=[]:=List.length_eq_zero_iff.1 (by simpa using hl)
  subst this
  rw [run_convert_bytes_string w src dst e none 0 0 hs he hd]
  simp [Conv.bytesToString]
  rfl
 ·have h':w.ownsRow base e 1 (.slice (some ⟨g,0,none⟩) n cap) n (l.map fun b=>Value.int .u8 (b.toNat:Int)):=⟨hl,.inr ⟨g,cap,cur,rfl,r⟩⟩
  obtain ⟨hr,hle,_⟩:=Row.of_owns h'
  exact conv_row w src dst e g e n cap l (by simpa using hle) hr hs he hd
theorem bdrewN {B:Nat} {a w:World} (h:Below B a w) (n:Nat):Below B a (w.drewN n):=⟨h.os,h.tape,h.output,h.size,h.block⟩
theorem cells_new (w:World) (cur:Array Value) (t:TypeId) (news:List Value) (h:cur.toList=news):∀j u,news[j]?=some u→(w.alloc (.cells cur t)).cell? ((⟨w.heap.size,0,none⟩:Addr).add j)=some u:=by
 intro j u hj
 subst h
 rw [Addr.add_lit]
 have hb:(w.alloc (.cells cur t)).heap[w.heap.size]?=some (.cells cur t (0,0)):=by show (w.heap.push _)[w.heap.size]?=_;simp
 simp only [World.cell?,hb,Nat.zero_add]
 simpa using hj
theorem obelow {B:Nat} {W a b:World} {e size n:Nat} {v:Value} {xs:List Value} (h:Below B W a) (hown:a.ownsRow B e size v n xs) (k:a.grownBy b v.ownBlock) (hB:B≤a.heap.size):Below B W b:=by
 refine h.grown k hB fun g hg=>?_
 obtain ⟨_,⟨rfl,_⟩ | ⟨g',cap,cur,rfl,hb,_⟩⟩:=hown
 ·simp [Value.ownBlock] at hg
 ·simp [Value.ownBlock] at hg;omega
theorem owns_below {w w':World} {B e size n:Nat} {v:Value} {xs:List Value} (h:w.ownsRow B e size v n xs) (hb:Below w.heap.size w w'):w'.ownsRow B e size v n xs:=by
 obtain ⟨h1,h2 | ⟨g,cap,cur,hv,hg,hh,r⟩⟩:=h
 ·exact ⟨h1,.inl h2⟩
 ·exact ⟨h1,.inr ⟨g,cap,cur,hv,hg,(hb.block g (lt_of_block hh)).trans hh,r⟩⟩
def IsRow (k:IntKind) (w:World) (a:Option Addr) (len cap:Nat) (zs:List Int):Prop:=
 len≤cap∧cap≤maxLen∧zs.length=cap∧(∀i,i<cap→∃b off,a=some ⟨b,off,none⟩∧b<w.heap.size∧w.cell? ⟨b,off+i,none⟩=some (.int k (zs.getD i 0)))∧∀n ∈ zs,(Lit.int k n).wf=true
theorem cell_lt {w:World} {a:Addr} {v:Value} (h:w.cell? a=some v):a.block<w.heap.size:=by
 rcases Nat.lt_or_ge a.block w.heap.size with h' | h'
 ·exact h'
 ·simp [World.cell?,Array.getElem?_eq_none h'] at h
open Go.ChangeShapes Go.WideShapes Go.ChangeAt in
theorem isRow_open {H:Type} {enc:TypeId × Value→H} {P:Program} {W:World} {t e:TypeId} {k:IntKind} {a:Option Addr} {len cap:Nat} {d:DataW H} {p:List MemPlace}
 (ht:P.underlying t=some (.slice e)) (he:P.underlying e=some (.int k)) (hce:P.cellsOf e=1) (h:DataW.Trod enc P W 0 (fun _=>true) true t (.slice a len cap) d p):∃zs,IsRow k W a len cap zs:=by
 obtain ⟨fuel,hf⟩:=h
 rcases open_ints ht he hce hf with ⟨hcs,_⟩ | ⟨x,l,c,zs,hcs,_,hl,hm,hz,_,hcell,hwz⟩
 ·simp [Value.cells] at hcs
  obtain ⟨rfl,rfl,rfl⟩:=hcs
  exact ⟨[],Lr _,Nat.zero_le _,rfl,fun i hi=>absurd hi (Nat.not_lt_zero _),fun n hn=>by cases hn⟩
 ·simp [Value.cells] at hcs
  obtain ⟨rfl,rfl,rfl⟩:=hcs
  refine ⟨zs,hl,hm,by simpa using hz,fun i hi=>?_,hwz⟩
  have hz':zs.length=cap:=by simpa using hz
  have hc:=hcell i (by omega)
  have hc0:=hcell 0 (by omega)
  obtain ⟨b,off,spot⟩:=x
  have hspot:spot=none:=by simpa [Addr.add] using World.cell?_spot hc0
  subst hspot
  rw [Addr.add_lit] at hc
  exact ⟨b,off,rfl,cell_lt hc,hc⟩
def Arr (w:World) (g:Nat) (T:TypeId) (xs:List Value):Prop:=w.heap[g]?=some (.cells xs.toArray T (0,0))
theorem Arr.cellAt {w:World} {g:Nat} {T:TypeId} {xs:List Value} (h:Arr w g T xs) {j:Nat} {u:Value} (hj:xs[j]?=some u):w.cell? ⟨g,j,none⟩=some u:=by
 rw [cell_of_row w g j _ _ _ h];simpa using hj
theorem Arr.free {w:World} {g:Nat} {T:TypeId} {xs:List Value} (h:Arr w g T xs) (j:Nat):w.frozen? ⟨g,j,none⟩=false:=frozen_of_row w g j _ _ h
theorem Arr.new (w:World) (xs:List Value) (T:TypeId):Arr (w.alloc (.cells xs.toArray T)) w.heap.size T xs:=Hn w _
theorem Arr.store {w:World} {g:Nat} {T:TypeId} {xs:List Value} (h:Arr w g T xs) (j:Nat) (v:Value):Arr (w.setCell ⟨g,j,none⟩ v) g T (xs.set j v):=by
 unfold Arr
 rw [heap_setCell_same w g j _ _ v h]
 simp
section
variable {P:Program}
end
end Go.Proofs.YtcklddldejejcaaGreatDoor
namespace Go.Proofs.YtcklddldejejcaaGreatDoor
open Go
def bytesV (l:List UInt8):List Value:=l.map fun b=>Value.int .u8 (b.toNat:Int)
theorem bytesV_append (a b:List UInt8):bytesV (a++b)=bytesV a++bytesV b:=by simp [bytesV]
where byts (n:Nat):List UInt8:=[UInt8.ofNat (n / 65536),UInt8.ofNat (n / 256),UInt8.ofNat n]
end Go.Proofs.YtcklddldejejcaaGreatDoor
namespace Go.Proofs.YtcklddldejejcaaGreatDoor
open Go.ChangeShapes Go.WideShapes Go.ChangeAt Go.RowKit
theorem Tryz.info5:(Tryz.prog.info? 5).map (fun i=>(i.zero,i.size,i.bytes))=some (some (.int .u8 0),1,1):=by kernel_rfl
theorem mod_any (n:Int) (m:Nat) (w:World) (h1:1≤m) (hm:m<2 ^ 62) (hlo:-9223372036854775808≤n) (hhi:n≤9223372036854775807) :
 Calls Tryz.prog 13 #[.int .i64 n,.int .i64 m] w fun e w'=>e=.returned (.int .i64 (n % (m:Int)))∧w=w':=by
 obtain ⟨r,hr⟩:∃r,r=n.tmod (m:Int):=⟨_,rfl⟩
 have h0:¬ (m:Int)=0:=by omega
 have hr1:-(m:Int)<r:=by
  rw [hr]
  have a1:=Int.lt_tmod_of_pos n (b:=(m:Int)) (by omega)
  omega
 have hr2:r<(m:Int):=by rw [hr];exact Int.tmod_lt_of_pos n (by omega)
 have hfin:(r+(m:Int)) % (m:Int)=n % (m:Int):=by
  rw [hr,Int.add_emod_right,Int.tmod_eq_emod]
  split
  ·simp
  ·rw [Int.sub_emod]
   simp
 have hfin2:r % (m:Int)=n % (m:Int):=by rw [←hfin];simp
 have HF2:=Hh hfin2
 have HF:=Hh hfin
 have hr':n.tmod (m:Int)=r:=hr.symm
 have hmz:((m:Int) == 0)=false:=by simp;omega
 clear hr hfin hfin2
 by_cases hn:0≤n
 ·have hr3:n % (m:Int)=r:=by rw [←hr',Int.tmod_eq_emod,if_pos (.inl hn)];simp
  go_enter Tryz.func13,Tryz.ntmps13
  go_wp2
  go_ret
  first | (rw [HF.out];exact ⟨rfl,rfl⟩) | (rw [HF2.out];exact ⟨rfl,rfl⟩)
 ·go_enter Tryz.func13,Tryz.ntmps13
  go_wp2
  go_ret
  first | (rw [HF.out];exact ⟨rfl,rfl⟩) | (rw [HF2.out];exact ⟨rfl,rfl⟩)
end Go.Proofs.YtcklddldejejcaaGreatDoor
namespace Go.Proofs.YtcklddldejejcaaGreatDoor
open Go Go.RowKit
def IntsAt (B:Nat) (w:World) (v:Value) (l:List Int):Prop:=
 ∃ao cap,v=.slice ao l.length cap∧l.length≤cap∧∀j,j<l.length→∃b off,ao=some ⟨b,off,none⟩∧b<B∧w.cell? ⟨b,off+j,none⟩=some (.int .i64 (l.getD j 0))
section
variable {B C:Nat} {w w':World} {v:Value}
theorem cell_same {b o:Nat} (hb:w'.heap[b]?=w.heap[b]?):w'.cell? ⟨b,o,none⟩=w.cell? ⟨b,o,none⟩:=by simp only [World.cell?,hb]
theorem IntsAt.same {l:List Int} (h:IntsAt B w v l) (hb:∀j,j<B→w'.heap[j]?=w.heap[j]?) (hC:B≤C):IntsAt C w' v l:=by
 obtain ⟨ao,cap,h1,h2,h3⟩:=h
 refine ⟨ao,cap,h1,h2,fun j hj=>?_⟩
 obtain ⟨b,off,e,hB,hc⟩:=h3 j hj
 exact ⟨b,off,e,by omega,by rw [cell_same (hb b hB)];exact hc⟩
theorem IntsAt.below {l:List Int} (h:IntsAt B w v l) (hb:Below B w w'):IntsAt B w' v l:=h.same hb.block (Lr _)
end
def badMark (k n:Int):Prop:=k<1∨4<k∨n<0∨4095<n
instance (k n:Int):Decidable (badMark k n):=by unfold badMark;infer_instance
end Go.Proofs.YtcklddldejejcaaGreatDoor
namespace Go.Proofs.YtcklddldejejcaaGreatDoor
open Go.Shelf Go.RowKit Go.Lib
def uren:Go.Shelf.Ren:=⟨fun | 196=>166 | 259=>191 | n=>n,fun | 0=>0 | 3=>3 | 4=>4 | 5=>5 | 9=>9 | 12=>12 | 46=>117 | 53=>150 | 119=>194 | 138=>196 | 139=>197 | n=>n,fun | 3=>3 | 4=>4 | n=>n⟩
theorem lays196:Go.Proofs.Lays.n196 Tryz.prog uren:={
 mixed:=by kernel_rfl
 f196:=Tryz.func166.trans (congrArg some (by kernel_rfl))
 f259:=Tryz.func191.trans (congrArg some (by kernel_rfl))
 t0:=Tryz.underlying0
 a0:=Tryz.isAgg0
 z0:=Tryz.sizeOf0
 v0:=Tryz.zeroValue0
 t3:=Tryz.underlying3
 a3:=Tryz.isAgg3
 z3:=Tryz.sizeOf3
 v3:=Tryz.zeroValue3
 t4:=Tryz.underlying4
 a4:=Tryz.isAgg4
 z4:=Tryz.sizeOf4
 v4:=Tryz.zeroValue4
 t5:=Tryz.underlying5
 a5:=Tryz.isAgg5
 z5:=Tryz.sizeOf5
 v5:=Tryz.zeroValue5
 t9:=Tryz.underlying9
 a9:=Tryz.isAgg9
 z9:=Tryz.sizeOf9
 v9:=Tryz.zeroValue9
 t12:=Tryz.underlying12
 a12:=Tryz.isAgg12
 z12:=Tryz.sizeOf12
 v12:=Tryz.zeroValue12
 t46:=Tryz.underlying117
 a46:=Tryz.isAgg117
 z46:=Tryz.sizeOf117
 v46:=Tryz.zeroValue117
 t53:=Tryz.underlying150
 a53:=Tryz.isAgg150
 z53:=Tryz.sizeOf150
 v53:=Tryz.zeroValue150
 t119:=Tryz.underlying194
 a119:=Tryz.isAgg194
 z119:=Tryz.sizeOf194
 t138:=Tryz.underlying196
 a138:=Tryz.isAgg196
 z138:=Tryz.sizeOf196
 v138:=Tryz.zeroValue196
 t139:=Tryz.underlying197
 a139:=Tryz.isAgg197
 z139:=Tryz.sizeOf197
 v139:=Tryz.zeroValue197
 g3:=by kernel_rfl
 g4:=by kernel_rfl
}
theorem uextra:U8Extra Tryz.prog uren:=⟨by kernel_rfl,by kernel_rfl,by kernel_rfl,by kernel_rfl,by kernel_rfl,by kernel_rfl,by kernel_rfl⟩
def Utab (w:World):Prop:=Lib.Utf8Tabs 3 4 w
theorem Utab.of {w : World} (h3 : VarReads Tryz.prog w "unicode/utf8.first" firstData) (h4 : VarReads Tryz.prog w "unicode/utf8.acceptRanges" acceptData) : Utab w := utf8Tabs_of_readsT (U8Types.of196 lays196) uextra h3 h4
theorem valid_any (s:ByteArray) (w:World) (hs:s.size≤maxLen) (hT:Utab w):Calls Tryz.prog 166 #[.string s] w fun e w'=>e=.returned (.bool (Lib.validD s.data.toList))∧Below w.heap.size w w':=
 Any.utf8_ValidString lays196 s w (Nat.le_trans hs (by decide)) hT
end Go.Proofs.YtcklddldejejcaaGreatDoor
namespace Go.Proofs.YtcklddldejejcaaGreatDoor
open Go
def HL:List Int:=[1779033703,3144134277,1013904242,2773480762,1359893119,2600822924,528734635,1541459225]
def blk (l:List UInt8) (n:Nat):List UInt8:=(l.drop (64 * n)).take 64
theorem eight {l:List Int} (h:l.length=8):∃a b c d e f g i:Int,l=[a,b,c,d,e,f,g,i]:=by
 match l,h with
 | [a,b,c,d,e,f,g,i],_=>exact ⟨a,b,c,d,e,f,g,i,rfl⟩
end Go.Proofs.YtcklddldejejcaaGreatDoor
namespace Go.Proofs.YtcklddldejejcaaGreatDoor
open Go.ChangeShapes Go.WideShapes Go.ChangeAt Go.RowKit
def zs (n:Nat):List Value:=List.replicate n (.int .u32 0)
end Go.Proofs.YtcklddldejejcaaGreatDoor
namespace Go.Proofs.YtcklddldejejcaaGreatDoor
open Go.Shelf Go.RowKit Go.Lib
def iren:Go.Shelf.Ren:=⟨fun | 129=>211 | 171=>130 | 243=>181 | 246=>165 | 283=>187 | 284=>188 | 285=>189 | 286=>190 | 317=>210 | 318=>212 | 319=>213 | 320=>214 | 337=>238 | 338=>239 | n=>n,fun | 0=>0 | 2=>2 | 3=>3 | 4=>4 | 5=>5 | 9=>9 | 20=>20 | 37=>73 | 46=>117 | 51=>108 | 53=>150 | 171=>188 | 173=>191 | 212=>234 | 213=>235 | 232=>111 | 233=>282 | n=>n,fun | 17=>6 | 18=>10 | 19=>11 | n=>n⟩
theorem lays171:Go.Proofs.LaysM.n171 Tryz.prog iren:={
 mixed:=by kernel_rfl
 f129:=Tryz.func211.trans (congrArg some (by kernel_rfl))
 f171:=Tryz.func130.trans (congrArg some (by kernel_rfl))
 f243:=Tryz.func181.trans (congrArg some (by kernel_rfl))
 f246:=Tryz.func165.trans (congrArg some (by kernel_rfl))
 f283:=Tryz.func187.trans (congrArg some (by kernel_rfl))
 f284:=Tryz.func188.trans (congrArg some (by kernel_rfl))
 f285:=Tryz.func189.trans (congrArg some (by kernel_rfl))
 f286:=Tryz.func190.trans (congrArg some (by kernel_rfl))
 f317:=Tryz.func210.trans (congrArg some (by kernel_rfl))
 f318:=Tryz.func212.trans (congrArg some (by kernel_rfl))
 f319:=Tryz.func213.trans (congrArg some (by kernel_rfl))
 f320:=Tryz.func214.trans (congrArg some (by kernel_rfl))
 f337:=Tryz.func238.trans (congrArg some (by kernel_rfl))
 f338:=Tryz.func239.trans (congrArg some (by kernel_rfl))
 t0:=Tryz.underlying0
 a0:=Tryz.isAgg0
 z0:=Tryz.sizeOf0
 v0:=Tryz.zeroValue0
 t2:=Tryz.underlying2
 a2:=Tryz.isAgg2
 z2:=Tryz.sizeOf2
 v2:=Tryz.zeroValue2
 t3:=Tryz.underlying3
 a3:=Tryz.isAgg3
 z3:=Tryz.sizeOf3
 v3:=Tryz.zeroValue3
 t4:=Tryz.underlying4
 a4:=Tryz.isAgg4
 z4:=Tryz.sizeOf4
 v4:=Tryz.zeroValue4
 t5:=Tryz.underlying5
 a5:=Tryz.isAgg5
 z5:=Tryz.sizeOf5
 v5:=Tryz.zeroValue5
 t9:=Tryz.underlying9
 a9:=Tryz.isAgg9
 z9:=Tryz.sizeOf9
 v9:=Tryz.zeroValue9
 t20:=Tryz.underlying20
 a20:=Tryz.isAgg20
 z20:=Tryz.sizeOf20
 v20:=Tryz.zeroValue20
 t37:=Tryz.underlying73
 a37:=Tryz.isAgg73
 z37:=Tryz.sizeOf73
 v37:=Tryz.zeroValue73
 t46:=Tryz.underlying117
 a46:=Tryz.isAgg117
 z46:=Tryz.sizeOf117
 v46:=Tryz.zeroValue117
 t51:=Tryz.underlying108
 a51:=Tryz.isAgg108
 z51:=Tryz.sizeOf108
 v51:=Tryz.zeroValue108
 t53:=Tryz.underlying150
 a53:=Tryz.isAgg150
 z53:=Tryz.sizeOf150
 v53:=Tryz.zeroValue150
 t171:=Tryz.underlying188
 a171:=Tryz.isAgg188
 z171:=Tryz.sizeOf188
 v171:=Tryz.zeroValue188
 t173:=Tryz.underlying191
 a173:=Tryz.isAgg191
 z173:=Tryz.sizeOf191
 v173:=Tryz.zeroValue191
 t212:=Tryz.underlying234
 a212:=Tryz.isAgg234
 z212:=Tryz.sizeOf234
 v212:=Tryz.zeroValue234
 t213:=Tryz.underlying235
 a213:=Tryz.isAgg235
 z213:=Tryz.sizeOf235
 t232:=Tryz.underlying111
 a232:=Tryz.isAgg111
 z232:=Tryz.sizeOf111
 v232:=Tryz.zeroValue111
 t233:=Tryz.underlying282
 a233:=Tryz.isAgg282
 z233:=Tryz.sizeOf282
 v233:=Tryz.zeroValue282
 g17:=by kernel_rfl
 g18:=by kernel_rfl
 g19:=by kernel_rfl
 i0:=by kernel_rfl
 i2:=by kernel_rfl
 i3:=by kernel_rfl
 i4:=by kernel_rfl
 i5:=by kernel_rfl
 i9:=by kernel_rfl
 i20:=by kernel_rfl
 i37:=by kernel_rfl
 i46:=by kernel_rfl
 i51:=by kernel_rfl
 i53:=by kernel_rfl
 i171:=by kernel_rfl
 i173:=by kernel_rfl
 i212:=by kernel_rfl
 i232:=by kernel_rfl
 i233:=by kernel_rfl
 m17:=by kernel_rfl
 m18:=by kernel_rfl
 m19:=by kernel_rfl
}
def Itab (w : World) : Prop := Lib.TabIs Tryz.prog w "internal/strconv.uint64pow10" .u64 Lib.pow10Tab
theorem Itab.below {w w':World} (h:Itab w) (hb:Below w.heap.size w w'):Itab w':=Lib.tabBelow_of_tabIs h w' hb
theorem itoa_any (n:Int) (h0:-9223372036854775808≤n) (h1:n≤9223372036854775807) (w:World) (hT:Itab w):Calls Tryz.prog 130 #[.int .i64 n] w fun e w'=>e=.returned (.string ⟨(Lib.itoa n).toArray⟩)∧Below w.heap.size w w':=
 (Any.strconv_Itoa lays171 n h0 h1 w hT).mono fun e w' ⟨h,k,os,hw⟩=>⟨h,by rw [hw];exact Lib.below_grow _ w (Lr _) k os⟩
end Go.Proofs.YtcklddldejejcaaGreatDoor
namespace Go.Proofs.YtcklddldejejcaaGreatDoor
open Go Go.RowKit Go.Shelf Go.Lib
theorem own:ownKnob Tryz.prog.godebug=none:=by kernel_rfl
theorem laidOut:laidOutB Tryz.prog=true:=by kernel_rfl
theorem jlaid_accept:(Rows.laid_unicode_utf8_acceptRanges:DataW Unit)=acceptData:=by kernel_rfl
theorem jlaid_first:Rows.laid_unicode_utf8_first=firstData:=by kernel_rfl
theorem jlaid_pow:(Rows.laid_internal_strconv_uint64pow10:DataW Unit)=tabData .u64 Lib.pow10Tab:=by kernel_rfl
theorem jitab_of {w : World} {r : List (String × DataW Unit)} (h : laidMet Tryz.prog (("internal/strconv.uint64pow10", Rows.laid_internal_strconv_uint64pow10) :: r) w) : Itab w := by
 rw [jlaid_pow] at h
 exact tabIs_of_head (g:=6) (t:=234) (e:=150) (n:=20) (by kernel_rfl) (by kernel_rfl) Tryz.underlying234 Tryz.underlying150 (by kernel_rfl) (by kernel_rfl) h
end Go.Proofs.YtcklddldejejcaaGreatDoor