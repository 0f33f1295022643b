/- Same: the program's own. -/
import Derived.Test.YtcklddldejejcaaGreatDoorProg
import Derived.Test.YtcklddldejejcaaGreatDoorRows
import Derived.Test.YtcklddldejejcaaGreatDoorCwt
import Derived.Test.YtcklddldejejcaaGreatDoorJwn
import Derived.BigQuiet
import Derived.Deep.QuietTactic
import Derived.Deep.AppendLies
import Derived.WalkSpells
import Derived.Maps.OwnSet
import Derived.Maps.StringElems
import Derived.DeepKeys4
import Derived.Lib.AtoiAllCases
import Derived.Lib.TrimUEq
import Derived.Laws.RangeString
import Derived.Laws.Runes
import Derived.WalkMore
import Derived.Deep.LoopGhost
import Derived.Shelf.Small.Wraps
import Derived.Shelf.Small.Strs
import Derived.Shelf.Strings.Runes
import Derived.Shelf.Strings.IndexAnyAll
import Derived.Shelf.Strconv.ErrVarAll
import Derived.Shelf.Strconv.ToError
import Derived.Lib.LaidU8
import Derived.Maps.RangeWalk
set_option linter.unusedVariables false
set_option linter.unusedSimpArgs false
set_option maxRecDepth 100000
set_option maxHeartbeats 1600000
namespace Go.Proofs.YtcklddldejejcaaGreatDoor
open Go Go.ChangeShapes Go.WideShapes Go.ChangeAt Go.RowKit
def BoolFor (p:Prop) (w:World) (e:Ending) (w':World):Prop:=∃b:Bool,e=.returned (.bool b)∧(b=true↔p)∧Below w.heap.size w w'
theorem StrsIn.get {S:Nat→Prop} {w:World} {ao:Option Addr} {l cap:Nat} {ns:List ByteArray} (h:StrsIn S w (.slice ao l cap) ns) {j:Nat} {s:ByteArray} (hj:ns[j]?=some s):∃b off,ao=some ⟨b,off,none⟩∧S b∧w.cell? ⟨b,off+j,none⟩=some (.string s):=by
 obtain ⟨ao',cap',e,h1,h2,h3⟩:=h
 cases e
 obtain ⟨b,off,e,hS,hc,_⟩:=h3 j s hj
 exact ⟨b,off,e,hS,hc⟩
theorem str_beq {a b:ByteArray} (h:a=b):(a.toList == b.toList)=true:=by rw [h];exact beq_self_eq_true _
theorem str_bne {a b:ByteArray} (h:a ≠ b):(a.toList == b.toList)=false:=by
 rw [beq_eq_false_iff_ne]
 intro e
 rw [ByteArray.toList_eq,ByteArray.toList_eq] at e
 exact h (ByteArray.ext (Array.toList_inj.1 e))
theorem ntext_any (s:ByteArray) (w:World):Calls Tryz.prog 76 #[.string s] w fun e w'=>e=.returned (.agg #[.int .i64 3,.bool false,.int .i64 0,.string s,.slice none 0 0,.slice none 0 0])∧Below w.heap.size w w':=by
 go_enter Tryz.func76,Tryz.ntmps76
 go_wp2
 refine bodyPost_ret (v:=.agg #[.int .i64 3,.bool false,.int .i64 0,.string s,.slice none 0 0,.slice none 0 0]) ?_ ?_ ?_
 rotate_left
 ·rfl
 ·exact ⟨rfl,(Br _ _).alloc (Lr _) _⟩
 ·obtain ⟨q0,q1,q2,q3,q4,q5⟩:=six_of (Hn w (.cells #[.int .i64 3,.bool false,.int .i64 0,.string s,.slice none 0 0,.slice none 0 0] 28))
  simp [results,Tryz.results76,go_sem,q0,q1,q2,q3,q4,q5]
theorem nmap_any (d:Nat) (S:Nat→Prop) (v v':Value) (ns:List ByteArray) (its:List ND) (w:World) (h:NodesIn (NodeIn d S w) S w v' its) (hn:StrsIn S w v ns) (hS:∀b,S b→b<w.heap.size) (hl:its.length≤1000000) (hln:ns.length≤1000000) (hlow:∀y,y ∈ its→lowN d y):Calls Tryz.prog 41 #[v,v'] w (NodeNew (d+1) w (.mk 5 false 0 ⟨#[]⟩ ns its)):=by
 obtain ⟨ao,cap,rfl,h1,h2,h3⟩:=id h
 obtain ⟨an,capn,rfl,n1,n2,n3⟩:=id hn
 have b1:=(Br w.heap.size w).alloc (o:=.cells #[.int .i64 0,.bool false,.int .i64 0,.string ⟨#[]⟩,.slice none 0 0,.slice none 0 0] 28) (Lr _)
 obtain ⟨w1,hw1⟩:∃W,W=w.alloc (.cells #[.int .i64 0,.bool false,.int .i64 0,.string ⟨#[]⟩,.slice none 0 0,.slice none 0 0] 28):=⟨_,rfl⟩
 have hr:=Hn w (.cells #[.int .i64 0,.bool false,.int .i64 0,.string ⟨#[]⟩,.slice none 0 0,.slice none 0 0] 28)
 have hz1:w1.heap.size=w.heap.size+1:=by rw [hw1];simp
 rw [←hw1] at b1 hr
 have CT:=Hh (ctexts_any _ ns w1 (hn.same fun b hb=>b1.block b (hS b hb)) hln)
 have CI:=Hh (fun (wx:World) (hb:Below w1.heap.size w1 wx)=>citems_any d S _ its wx (h.same (fun b hb'=>(hb.block b (Ll (hS b hb') b1.size)).trans (b1.block b (hS b hb'))) fun cs y q=>q.same fun b hb'=>(hb.block b (Ll (hS b hb') b1.size)).trans (b1.block b (hS b hb'))) (fun b hb'=>Ll (Ll (hS b hb') b1.size) hb.size) hl hlow)
 have B1:=Hh b1
 have HR:=Hh hr
 have HZ:=Hh hz1
 clear h hn hS hl hln hlow h3 n3 b1 hr hz1
 go_enter Tryz.func41,Tryz.ntmps41
 go_upto_region 1 with fail
 rw [←hw1]
 clear hw1
 go_wp2_with (first
  | (go_at_call 77;(with_reducible refine (CT.out).mono ?_);rintro e w2 ⟨v1,rfl,hv1,hv1o,hb2,hrow⟩;obtain ⟨a3,c3,rfl,hv1r⟩:=hv1)
  | (go_at_call 78;(with_reducible refine (CI.out _ hb2).mono ?_);rintro e w3 ⟨v2,rfl,hv2,hb3⟩;obtain ⟨a4,c4,rfl,hv2r⟩:=hv2;(have hk3:=(hb3.block _ (Ll (lt_of_block HR.out) hb2.size)).trans ((hb2.block _ (lt_of_block HR.out)).trans HR.out));(have f3:=free_six hk3);(have c3':=six_of hk3);clear hk3))
 have hv2:NodesIn (NodeIn d (Fr w2.heap.size w3) w3) (Fr w2.heap.size w3) w3 (.slice a4 its.length c4) its:=⟨a4,c4,rfl,hv2r⟩
 have hv1:StrsIn (Fr w1.heap.size w2) w2 (.slice a3 ns.length c3) ns:=⟨a3,c3,rfl,hv1r⟩
 have hk3:=(hb3.block _ (Ll (lt_of_block HR.out) hb2.size)).trans ((hb2.block _ (lt_of_block HR.out)).trans HR.out)
 have hput:=six_put hk3 (.int .i64 5) (.bool false) (.int .i64 0) (.string ⟨#[]⟩) (.slice a3 ns.length c3) (.slice a4 its.length c4)
 have hgf:=grown_set6 w3 w.heap.size (.int .i64 5) (.bool false) (.int .i64 0) (.string ⟨#[]⟩) (.slice a3 ns.length c3) (.slice a4 its.length c4)
 have hz1:=HZ.out
 have hs2:=hb2.size
 refine bodyPost_ret (v:=.agg #[.int .i64 5,.bool false,.int .i64 0,.string ⟨#[]⟩,.slice a3 ns.length c3,.slice a4 its.length c4]) ?_ ?_ ?_
 rotate_left
 ·rfl
 ·have e1:∀b,Fr w1.heap.size w2 b→(set6 w3 w.heap.size (.int .i64 5) (.bool false) (.int .i64 0) (.string ⟨#[]⟩) (.slice a3 ns.length c3) (.slice a4 its.length c4)).heap[b]?=w2.heap[b]?:=fun b hb=>(hgf.block b (Ll hb.2.1 hb3.size) (by intro e;have:=Option.some.inj e;have:=hb.1;omega)).trans (hb3.block b hb.2.1)
  have e2:∀b,Fr w2.heap.size w3 b→(set6 w3 w.heap.size (.int .i64 5) (.bool false) (.int .i64 0) (.string ⟨#[]⟩) (.slice a3 ns.length c3) (.slice a4 its.length c4)).heap[b]?=w3.heap[b]?:=fun b hb=>hgf.block b hb.2.1 (by intro e;have:=Option.some.inj e;have:=hb.1;omega)
  refine ⟨[.int .i64 5,.bool false,.int .i64 0,.string ⟨#[]⟩,.slice a3 ns.length c3,.slice a4 its.length c4],rfl,⟨_,_,rfl,Nat.zero_le _,?_,?_⟩,?_⟩
  ·exact (hv1.same e1).mono fun b hb=>hb.move (e1 b hb) (by omega) (Nat.le_trans hb3.size hgf.size)
  ·exact (hv2.same e2 fun cs y q=>q.same e2).mono (fun b hb=>hb.move (e2 b hb) (by omega) hgf.size) fun cs y q=>q.mono fun b hb=>hb.move (e2 b hb) (by omega) hgf.size
  ·have hbb:=B1.out.trans ((hb2.trans (hb3.mono hb2.size)).mono B1.out.size)
   exact ⟨hgf.os.trans hbb.os,hgf.tape.trans hbb.tape,hgf.output.trans hbb.output,Nat.le_trans hbb.size hgf.size,fun b hb=>(hgf.block b (Ll hb hbb.size) (by intro e;have:=Option.some.inj e;omega)).trans (hbb.block b hb)⟩
 ·obtain ⟨q0,q1,q2,q3,q4,q5⟩:=six_of hput
  simp only [set6] at q0 q1 q2 q3 q4 q5
  simp [results,Tryz.results41,go_sem,q0,q1,q2,q3,q4,q5]
end Go.Proofs.YtcklddldejejcaaGreatDoor
namespace Go.Proofs.YtcklddldejejcaaGreatDoor
open Go Go.Maps Go.ChangeShapes Go.WideShapes Go.ChangeAt Go.RowKit
def leafV (k:Int) (b:Bool):Value:=.agg #[.int .i64 k,.bool b,.int .i64 0,.string ⟨#[]⟩,.slice none 0 0,.slice none 0 0]
open Classical in
noncomputable def wordR (v:Value):Option (DataW Unit × List MemPlace):=if v=leafV 0 false then some (.lit (.int .i64 0),[]) else if v=leafV 1 false then some (.lit (.int .i64 1),[]) else if v=leafV 1 true then some (.lit (.int .i64 2),[]) else none
def hKey (m n:Nat):Lit:=.string (keyBytes [.int .i64 (m:Int),.int .u64 (n:Int)])
def hD1:DataW Unit:=(DataW.map []).put (hKey 7 22) (.lit (.int .i64 0))
def hD2:DataW Unit:=hD1.put (hKey 7 20) (.lit (.int .i64 1))
def hD3:DataW Unit:=hD2.put (hKey 7 21) (.lit (.int .i64 2))
def Heads (w:World) (m:Nat):Prop:=w.ownsMap Tryz.prog 247 wordR m 3 hD3
end Go.Proofs.YtcklddldejejcaaGreatDoor
namespace Go.Proofs.YtcklddldejejcaaGreatDoor
open Go Go.ChangeShapes Go.WideShapes Go.ChangeAt Go.RowKit
def EVars (w:World):Prop:=(∃t p,w.cell? ⟨7,0,none⟩=some (.iface t p))∧(∃t p,w.cell? ⟨8,0,none⟩=some (.iface t p))
theorem EVars.below {w w':World} (h:EVars w) (hb:Below w.heap.size w w'):EVars w':=by
 obtain ⟨⟨t,p,h1⟩,⟨t',p',h2⟩⟩:=h
 exact ⟨⟨t,p,(hb.cell (p:=⟨_,0,none⟩) (cell_lt h1)).trans h1⟩,⟨t',p',(hb.cell (p:=⟨_,0,none⟩) (cell_lt h2)).trans h2⟩⟩
def bA (l:List UInt8):ByteArray:=⟨l.toArray⟩
theorem bA_data (l:List UInt8):(bA l).data.toList=l:=by simp [bA]
theorem bA_size (l:List UInt8):(bA l).size=l.length:=by simp [bA,ByteArray.size]
theorem bA_of (s:ByteArray):bA s.data.toList=s:=by cases s;simp [bA]
theorem bA_extract (l:List UInt8) (a b:Nat):(bA l).extract a b=bA ((l.drop a).take (b - a)):=by
 apply ByteArray.ext
 apply Array.toList_inj.1
 rw [ByteArray.data_extract,Array.toList_extract]
 simp [bA,List.extract]
theorem prefix_split {p r:List UInt8} (h:Lib.hasPrefix r p=true):r=p++r.drop p.length:=by
 unfold Lib.hasPrefix at h
 obtain ⟨t,rfl⟩:=List.isPrefixOf_iff_prefix.1 h
 simp
theorem quoted_end (q x t:List UInt8) (h:quotedP (34::q)=some (x,t)):x=[]∧t=q:=by
 rw [quotedP_eq,qStep_cons,if_pos rfl] at h
 cases h;exact ⟨rfl,rfl⟩
theorem quoted_esc (q x t:List UInt8) (h:quotedP (92::q)=some (x,t)):∃c q' x',escP q=some (c,q')∧x=c::x'∧quotedP q'=some (x',t):=by
 rw [quotedP_eq,qStep_cons,if_neg (by decide),if_pos rfl] at h
 cases he:escP q with
 | none=>rw [he] at h;cases h
 | some y=>
  obtain ⟨c,q'⟩:=y
  rw [he] at h
  replace h:(quotedP q').map (fun x=>(c::x.1,x.2))=some (x,t):=h
  cases hq:quotedP q' with
  | none=>rw [hq] at h;cases h
  | some z=>
   obtain ⟨z1,z2⟩:=z
   rw [hq] at h
   cases h
   exact ⟨c,q',z1,rfl,rfl,hq⟩
def NameIs (r s t:List UInt8):Prop:=∃q,r=34::q∧quotedP q=some (s,58::t)
end Go.Proofs.YtcklddldejejcaaGreatDoor
namespace Go.Proofs.YtcklddldejejcaaGreatDoor
open Go Go.RowKit Go.Shelf Go.Lib
theorem star_err : "*" ++ "errors.errorString" = "*errors.errorString" := by decide
theorem row_err : ∀ u, Tryz.prog.typeName? 3 u = some "*errors.errorString" → u = 279 := fun u h =>
 typeName_ptr_named (nm := "errors.errorString") (by rw [star_err]; kernel_rfl) (by kernel_rfl) (by decide) u (by rw [star_err]; exact h)
end Go.Proofs.YtcklddldejejcaaGreatDoor
namespace Go.Proofs.YtcklddldejejcaaGreatDoor
open Go Go.ChangeShapes Go.WideShapes Go.ChangeAt Go.RowKit
theorem has_take {r t:List UInt8}:Lib.hasPrefix r t=(r.take t.length == t):=by
 unfold Lib.hasPrefix
 rw [Bool.eq_iff_iff,List.isPrefixOf_iff_prefix,List.prefix_iff_eq_take,beq_iff_eq]
 exact eq_comm
theorem rhas_any (s t:ByteArray) (p:Nat) (w:World) (hp:p≤s.size) (hs:s.size≤1000000) (ht:t.size≤100):Calls Tryz.prog 125 #[.string s,.int .i64 (p:Int),.string t] w fun e w'=>e=.returned (.bool (Lib.hasPrefix (s.data.toList.drop p) t.data.toList))∧w=w':=by
 have hsl:s.data.toList.length=s.size:=by rw [Array.length_toList];rfl
 have htl:t.data.toList.length=t.size:=by rw [Array.length_toList];rfl
 by_cases hlen:p+t.size≤s.size
 ·have h1:(t.size:Int)≤(s.size:Int) - (p:Int):=by omega
  have hp0:(0:Int)≤(p:Int):=by omega
  have hsi:(s.size:Int)≤1000000:=by omega
  have hwr:IntKind.i64.wrap ((p:Int)+(t.size:Int))=((p+t.size:Nat):Int):=by rw [IntWalk.i64_in _ (by omega)];omega
  have hpt:(p:Int)+(t.size:Int)≤(s.size:Int):=by omega
  have e1:s.extract p (p+t.size)=bA ((s.data.toList.drop p).take t.size):=by
   have:=bA_extract s.data.toList p (p+t.size)
   rwa [bA_of,Nat.add_sub_cancel_left] at this
  obtain ⟨b,hb⟩:∃b,b=Lib.hasPrefix (s.data.toList.drop p) t.data.toList:=⟨_,rfl⟩
  have e2:((s.extract p (p+t.size)).toList == t.toList)=b:=by
   rw [hb,has_take,e1,Lib.toList_data,Lib.toList_data,bA_data,htl]
  rw [←hb]
  clear hb e1 hsl htl hs ht
  go_enter Tryz.func125,Tryz.ntmps125
  go_wp2
  go_ret
  exact ⟨rfl,rfl⟩
 ·have h1:¬ (t.size:Int)≤(s.size:Int) - (p:Int):=by omega
  have e2:Lib.hasPrefix (s.data.toList.drop p) t.data.toList=false:=by
   rw [has_take,beq_eq_false_iff_ne]
   intro e
   have:=congrArg List.length e
   rw [List.length_take,List.length_drop] at this
   omega
  rw [e2]
  clear e2 hsl htl
  go_enter Tryz.func125,Tryz.ntmps125
  go_wp2
  go_ret
  exact ⟨rfl,rfl⟩
def hexI (a:UInt8) (i:Nat):Int:=match hexV a with
 | some v=>if v.toNat<i then (v.toNat:Int) else -1
 | none=>-1
theorem hexI_step (a:UInt8) {i:Nat} (hi:i<16):(hexD (UInt8.ofNat i)=a→hexI a (i+1)=(i:Int))∧(hexD (UInt8.ofNat i) ≠ a→hexI a (i+1)=hexI a i):=by
 have h1:∀i:Fin 16,hexV (hexD (UInt8.ofNat i.1))=some (UInt8.ofNat i.1):=by decide +kernel
 have h2:∀a:Fin 256,∀v,hexV (UInt8.ofNat a.1)=some v→hexD v=UInt8.ofNat a.1:=by decide +kernel
 have e1:(UInt8.ofNat i).toNat=i:=by rw [UInt8.toNat_ofNat'];omega
 constructor
 ·rintro rfl
  unfold hexI
  rw [h1 ⟨i,hi⟩]
  show (if (UInt8.ofNat i).toNat<i+1 then ((UInt8.ofNat i).toNat:Int) else -1)=_
  rw [e1,if_pos (by omega)]
 ·intro h
  unfold hexI
  cases hv:hexV a with
  | none=>rfl
  | some v=>
   have:=h2 ⟨a.toNat,a.toNat_lt⟩ v (by rw [show UInt8.ofNat a.toNat=a from UInt8.ofNat_toNat];exact hv)
   rw [show UInt8.ofNat a.toNat=a from UInt8.ofNat_toNat] at this
   have hne:v.toNat ≠ i:=fun e=>h (by rw [←this,←e,UInt8.ofNat_toNat])
   show (if v.toNat<i+1 then (v.toNat:Int) else -1)=(if v.toNat<i then (v.toNat:Int) else -1)
   by_cases q:v.toNat<i
   ·rw [if_pos q,if_pos (by omega)]
   ·rw [if_neg q,if_neg (by omega)]
theorem hexI_bd (a:UInt8) (i:Nat):-1≤hexI a i∧hexI a i≤15:=by
 have h2:∀a:Fin 256,∀v,hexV (UInt8.ofNat a.1)=some v→v.toNat<16:=by decide +kernel
 unfold hexI
 cases hv:hexV a with
 | none=>exact ⟨by simp,by simp⟩
 | some v=>
  have:=h2 ⟨a.toNat,a.toNat_lt⟩ v (by rw [show UInt8.ofNat a.toNat=a from UInt8.ofNat_toNat];exact hv)
  dsimp only
  split <;> omega
theorem hexI_some {a v:UInt8} (h:hexV a=some v):hexI a 16=(v.toNat:Int)∧v.toNat<16:=by
 have h2:∀a:Fin 256,∀v,hexV (UInt8.ofNat a.1)=some v→v.toNat<16:=by decide +kernel
 have:=h2 ⟨a.toNat,a.toNat_lt⟩ v (by rw [show UInt8.ofNat a.toNat=a from UInt8.ofNat_toNat];exact h)
 unfold hexI
 rw [h]
 exact ⟨if_pos this,this⟩
theorem hexI_zero (a:UInt8):hexI a 0=-1:=by
 unfold hexI
 cases hexV a with
 | none=>rfl
 | some v=>exact if_neg (by omega)
def hexB (a b:UInt8):UInt8:=UInt8.ofNat ((16 * hexI a 16+hexI b 16) % 256).toNat
def hexO (a b:UInt8):Bool:=decide (0≤hexI a 16) && decide (0≤hexI b 16)
theorem hex_data {a b x y:UInt8} (hx:hexV a=some x) (hy:hexV b=some y):hexO a b=true∧hexB a b=16 * x+y:=by
 obtain ⟨x1,x2⟩:=hexI_some hx
 obtain ⟨y1,y2⟩:=hexI_some hy
 unfold hexO hexB
 rw [x1,y1]
 refine ⟨by simp,UInt8.toNat_inj.1 ?_⟩
 rw [UInt8.toNat_add,UInt8.toNat_mul,UInt8.toNat_ofNat']
 show _=(16 * x.toNat % 256+y.toNat) % 256
 omega
theorem rhex_any (a b:UInt8) (w:World):Calls Tryz.prog 179 #[.int .u8 (a.toNat:Int),.int .u8 (b.toNat:Int)] w fun e w'=>e=.returned (.tuple #[.int .u8 ((hexB a b).toNat:Int),.bool (hexO a b)])∧w=w':=by
 have hz1:=hexI_zero a
 have hz2:=hexI_zero b
 go_enter Tryz.func179,Tryz.ntmps179
 go_upto_region 3 with fail
 go_loopw [6,7,9] (fun x y i wr=>∃j:Nat,i=.int .i64 j∧j≤16∧x=.int .i64 (hexI a j)∧y=.int .i64 (hexI b j)∧wr=w) (fun _ _ i _=>16 - (intOf i).toNat)
 case atStart=>exact ⟨0,rfl,by omega,by rw [hz1],by rw [hz2],rfl⟩
 case round=>
  obtain ⟨j,rfl,hj,rfl,rfl,hw⟩:=hrel
  replace hw:=hw.symm
  subst hw
  by_cases hlt:j<16
  ·have hlt':(j:Int)<16:=by omega
   have hj0:(0:Int)≤(j:Int):=by omega
   have hg:=hex_get j (by exact hlt)
   obtain ⟨c,hc⟩:∃c,c=hexD (UInt8.ofNat j):=⟨_,rfl⟩
   rw [←hc] at hg
   have sa:=hexI_step a hlt
   have sb:=hexI_step b hlt
   rw [←hc] at sa sb
   have HA:=Hh sa
   have HB:=Hh sb
   clear hc sa sb hz1 hz2
   by_cases ha:c=a
   ·have ta:((c.toNat:Int) == (a.toNat:Int))=true:=by rw [ha];simp
    have ea:=HA.out.1 ha
    by_cases hb:c=b
    ·have tb:((c.toNat:Int) == (b.toNat:Int))=true:=by rw [hb];simp
     have eb:=HB.out.1 hb
     have E:=Hh (Ai ea eb)
     clear ea eb ha hb
     go_wp2
     go_roundw
     case rel=>exact ⟨j+1,by go_num,by omega,by rw [E.out.1],by rw [E.out.2],by first | exact rfl | trivial⟩
     case measure=>simp [intOf];omega
    ·have tb:((c.toNat:Int) == (b.toNat:Int))=false:=by
      rw [beq_eq_false_iff_ne];intro e;exact hb (UInt8.toNat_inj.1 (by omega))
     have eb:=HB.out.2 hb
     have E:=Hh (Ai ea eb)
     clear ea eb ha hb
     go_wp2
     go_roundw
     case rel=>exact ⟨j+1,by go_num,by omega,by rw [E.out.1],by rw [E.out.2],by first | exact rfl | trivial⟩
     case measure=>simp [intOf];omega
   ·have ta:((c.toNat:Int) == (a.toNat:Int))=false:=by
     rw [beq_eq_false_iff_ne];intro e;exact ha (UInt8.toNat_inj.1 (by omega))
    have ea:=HA.out.2 ha
    by_cases hb:c=b
    ·have tb:((c.toNat:Int) == (b.toNat:Int))=true:=by rw [hb];simp
     have eb:=HB.out.1 hb
     have E:=Hh (Ai ea eb)
     clear ea eb ha hb
     go_wp2
     go_roundw
     case rel=>exact ⟨j+1,by go_num,by omega,by rw [E.out.1],by rw [E.out.2],by first | exact rfl | trivial⟩
     case measure=>simp [intOf];omega
    ·have tb:((c.toNat:Int) == (b.toNat:Int))=false:=by
      rw [beq_eq_false_iff_ne];intro e;exact hb (UInt8.toNat_inj.1 (by omega))
     have eb:=HB.out.2 hb
     have E:=Hh (Ai ea eb)
     clear ea eb ha hb
     go_wp2
     go_roundw
     case rel=>exact ⟨j+1,by go_num,by omega,by rw [E.out.1],by rw [E.out.2],by first | exact rfl | trivial⟩
     case measure=>simp [intOf];omega
  ·have hlt':¬ (j:Int)<16:=by omega
   obtain rfl:j=16:=by omega
   have ba:=hexI_bd a 16
   have bb:=hexI_bd b 16
   obtain ⟨c,hcc⟩:∃c,c=hexB a b:=⟨_,rfl⟩
   obtain ⟨ok,hok⟩:∃ok,ok=hexO a b:=⟨_,rfl⟩
   have HCC:=Hh (Ai hcc hok)
   have hc:(c.toNat:Int)=(16 * hexI a 16+hexI b 16) % 256:=by rw [hcc];unfold hexB;rw [UInt8.toNat_ofNat'];omega
   unfold hexO at hok
   generalize hexI a 16=x at hok hc ba ⊢
   generalize hexI b 16=y at hok hc bb ⊢
   have hw1:IntKind.i64.wrap (16 * x)=16 * x:=IntWalk.i64_in _ (by omega)
   have hw2:IntKind.i64.wrap (16 * x+y)=16 * x+y:=IntWalk.i64_in _ (by omega)
   have hw3:IntKind.u8.wrap (16 * x+y)=(c.toNat:Int):=by rw [IntKind.wrap_u8,hc]
   clear hz1 hz2 hj hlt hcc hc
   by_cases h0:0≤x
   ·by_cases h1:0≤y
    ·obtain rfl:ok=true:=by rw [hok,decide_eq_true h0,decide_eq_true h1];rfl
     clear hok
     go_wp2
     go_ret2
     exact ⟨by rw [←HCC.out.1,←HCC.out.2];rfl,rfl⟩
    ·obtain rfl:ok=false:=by rw [hok,decide_eq_false h1,Bool.and_false]
     clear hok
     go_wp2
     go_ret2
     exact ⟨by rw [←HCC.out.1,←HCC.out.2];rfl,rfl⟩
   ·obtain rfl:ok=false:=by rw [hok,decide_eq_false h0];rfl
    clear hok
    go_wp2
    go_ret2
    exact ⟨by rw [←HCC.out.1,←HCC.out.2];rfl,rfl⟩
end Go.Proofs.YtcklddldejejcaaGreatDoor