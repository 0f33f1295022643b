import Derived.Test.YtncdpanfefnjlaaGreatDoorAa
import Derived.Test.YtncdpanfefnjlaaGreatDoorRows
set_option linter.unusedVariables false
set_option linter.unusedSimpArgs false
set_option maxRecDepth 100000
namespace Go.Proofs.YtncdpanfefnjlaaGreatDoor
open Go.Proofs.Tryz
open Go Go.RowKit
def Row (w:World) (g:Nat) (T:TypeId) (cap:Nat) (xs:Vl):Prop:=
 ∃ (cur:Array Value) (fr:Nat × Nat),w.heap[g]?=some (.cells cur T fr)∧cap≤cur.size∧xs.length≤cap∧cur.toList.take xs.length=xs∧(fr=(0,0)∨cap≤fr.1)
theorem Row.lt {w:World} {g:Nat} {T:TypeId} {cap:Nat} {xs:Vl} (h:Row w g T cap xs):g<w.heap.size:=by
 obtain ⟨cur,fr,hh,_⟩:=h;exact Aa hh
theorem Row.cellAt {w:World} {g:Nat} {T:TypeId} {cap:Nat} {xs:Vl} (h:Row w g T cap xs) {j:Nat} {u:Value} (hj:xs[j]?=some u):w.cell? ⟨g,j,none⟩=some u:=by
 obtain ⟨cur,fr,hh,hc,hl,ht,hf⟩:=h;have hlt:j<xs.length:=by
  rcases Cc j xs.length with h | h
  ·exact h
  ·simp [By h] at hj
 have:cur[j]?=some u:=by
  rw [←hj,←ht,Df,Am (by omega)]
  simp
 simp [World.cell?,hh,this]
theorem Row.there {w:World} {g:Nat} {T:TypeId} {cap:Nat} {xs:Vl} (h:Row w g T cap xs) {j:Nat} (hj:j<cap):(w.cell? ⟨g,j,none⟩).isSome=true∧w.frozen? ⟨g,j,none⟩=false:=by
 obtain ⟨cur,fr,hh,hc,hl,ht,hf⟩:=h
 constructor
 ·simp [World.cell?,hh];omega
 ·rcases hf with rfl | hf
  ·simp [World.frozen?,hh]
  ·simp [World.frozen?,hh];omega
theorem Row.of_block {w w':World} {g:Nat} {T:TypeId} {cap:Nat} {xs:Vl} (h:Row w g T cap xs) (e:w'.heap[g]?=w.heap[g]?):Row w' g T cap xs:=by
 obtain ⟨cur,fr,hh,r⟩:=h;exact ⟨cur,fr,e.trans hh,r⟩
theorem Row.alloc {w:World} {g:Nat} {T:TypeId} {cap:Nat} {xs:Vl} (h:Row w g T cap xs) (o:Obj):Row (w.alloc o) g T cap xs:=
 h.of_block (Bh w o g h.lt)
theorem Row.of_owns {w:World} {base g n k cap:Nat} {e:TypeId} {xs:Vl} (h:w.ownsRow base e 1 (.slice (some ⟨g,0,none⟩) k cap) n xs):Row w g e cap xs∧xs.length=n∧base≤g∧cap≤maxLen∧k=n:=by
 obtain ⟨hl,h | ⟨g',cap',cur,hv,hg,hh,hn,hm,hs,ht⟩⟩:=h
 ·simp at h
 ·simp only [Value.slice.injEq,Option.some.injEq,Addr.mk.injEq] at hv
  obtain ⟨⟨rfl,_⟩,rfl,rfl⟩:=hv;have e1:xs.length=k:=by simpa using hl
  refine ⟨⟨cur,(0,0),hh,by simp at hs;omega,by omega,?_,.inl rfl⟩,e1,hg,hm,rfl⟩
  rw [e1];simpa using ht
theorem Row.push {w:World} {g:Nat} {T:TypeId} {cap:Nat} {xs:Vl} (h:Row w g T cap xs) (hr:xs.length<cap) (v:Value):Row (w.setCell ⟨g,xs.length,none⟩ v) g T cap (xs++[v]):=by
 have hlt:=h.lt;obtain ⟨cur,fr,hh,hc,hl,ht,hf⟩:=h;refine ⟨cur.setIfInBounds xs.length v,fr,?_,by simpa using hc,by simp;omega,?_,hf⟩
 ·have h':w.heap[g]=.cells cur T fr:=by simpa [Ca hlt] using hh
  show (w.heap.modify g _)[g]?=_
  rw [Ca (by simpa using hlt),Array.getElem_modify_self,h']
  rfl
 ·apply List.ext_getElem?
  intro i;simp only [Lg,List.length_singleton,Df,Array.toList_setIfInBounds]
  by_cases hi:i<xs.length
  ·rw [Am (by omega),List.getElem?_set_ne (by omega),Cq hi]
   have:=Ad (·[i]?) ht;simp only [Df,Am hi] at this;exact this
  ·by_cases h2:i=xs.length
   ·subst h2
    rw [Am (by omega),List.getElem?_set_self (by simp;omega)]
    simp
   ·rw [Af (by omega),Dl (by omega)]
    symm
    apply By
    simp;omega
theorem Row.pushes {g:Nat} {T:TypeId} {cap:Nat}:∀ (news:Vl) {w:World} {xs:Vl},Row w g T cap xs→xs.length+news.length≤cap→Row (w.setCells g xs.length news) g T cap (xs++news)
 | [],w,xs,h,_=>by simpa [World.setCells] using h
 | v::r,w,xs,h,hr=>by
  have h1:=h.push (by simp at hr;omega) v
  have h2:=Row.pushes r h1 (by simp at hr ⊢;omega)
  simpa [World.setCells] using h2
theorem uJ (w:World) (g o:Nat) (vs:Vl):w.grownBy (w.setCells g o vs) (some g):=by
 have kept:=World.keptBut_setCells g (may:=fun p=>p.block=g) vs o w (fun _ _=>rfl)
 refine ⟨kept.1,?_,kept.2.1,?_,fun k hk hne=>World.heap_setCells_other w g o vs hk (fun e=>hne (by rw [e]))⟩
 ·clear kept
  induction vs generalizing w o with
  | nil=>rfl
  | cons v r ih=>exact (ih _ _).trans rfl
 ·clear kept
  induction vs generalizing w o with
  | nil=>exact Lr _
  | cons v r ih=>exact Ae (by simp [World.setCell]) (ih _ _)
theorem aH {a b c:World} {row:Option Nat} (h:a.grownBy b row) (k:b.grownBy c row):a.grownBy c row:=
 ⟨k.os.trans h.os,k.tape.trans h.tape,k.output.trans h.output,Ae h.size k.size,fun i hi hne=>(k.block i (Ll hi h.size) hne).trans (h.block i hi hne)⟩
theorem dP (w:World) (o:Obj) (row:Option Nat):w.grownBy (w.alloc o) row:=
 ⟨rfl,rfl,rfl,by simp,fun k hk _=>Bh w o k hk⟩
theorem fU {W a b:World} {B g:Nat} (h:Below B W a) (k:a.grownBy b (some g)) (hB:B≤a.heap.size) (hg:B≤g):Below B W b:=
 h.grown k hB (fun _ e=>by cases e;exact hg)
theorem AG {P:Program} (w:World) (src dst e:TypeId) (g:Nat) (T:TypeId) (k cap:Nat) {cap':Nat} (l:Ub) (hk:l.length=k) (hr:Row w g T cap' (l.map fun b=>Value.int .u8 (b.toNat:Int)))
 (hs:P.underlying src=some (.slice e)) (he:P.underlying e=some (.int .u8)) (hd:P.underlying dst=some .string) :
 (convert src dst (.slice (some ⟨g,0,none⟩) k cap)).run P w=.ok (.string ⟨l.toArray⟩) w:=by
 subst hk;refine run_convert_bytes_back w src dst e ⟨g,0,none⟩ cap l hs he hd fun j hj=>?_
 rw [Bn]
 simpa using hr.cellAt (j:=j) (u:=.int .u8 (l[j].toNat:Int)) (by simp [hj])
theorem eX {P:Program} (w:World) (src dst e:TypeId) (base n:Nat) (v:Value) (l:Ub) (h:w.ownsRow base e 1 v n (l.map fun b=>Value.int .u8 (b.toNat:Int)))
 (hs:P.underlying src=some (.slice e)) (he:P.underlying e=some (.int .u8)) (hd:P.underlying dst=some .string) :
 (convert src dst v).run P w=.ok (.string ⟨l.toArray⟩) w:=by
 obtain ⟨hl,⟨rfl,rfl⟩ | ⟨g,cap,cur,rfl,r⟩⟩:=h
 ·have:l=[]:=Au.1 (by simpa using hl)
  subst this;rw [run_convert_bytes_string w src dst e none 0 0 hs he hd];simp [Conv.bytesToString]
  rfl
 ·have h':w.ownsRow base e 1 (.slice (some ⟨g,0,none⟩) n cap) n (l.map fun b=>Value.int .u8 (b.toNat:Int)):=⟨hl,.inr ⟨g,cap,cur,rfl,r⟩⟩
  obtain ⟨hr,hle,_⟩:=Row.of_owns h';exact AG w src dst e g e n cap l (by simpa using hle) hr hs he hd
theorem Row.drewN {w:World} {g:Nat} {T:TypeId} {cap:Nat} {xs:Vl} (h:Row w g T cap xs) (n:Nat):Row (w.drewN n) g T cap xs:=h
theorem uU {B:Nat} {a w:World} (h:Below B a w) (n:Nat):Below B a (w.drewN n):=⟨h.os,h.tape,h.output,h.size,h.block⟩
theorem gC (w:World) (cur:Array Value) (t:TypeId) (news:Vl) (h:cur.toList=news):∀j u,news[j]?=some u→(w.alloc (.cells cur t)).cell? ((⟨w.heap.size,0,none⟩:Addr).add j)=some u:=by
 intro j u hj;subst h;rw [Bn];have hb:(w.alloc (.cells cur t)).heap[w.heap.size]?=some (.cells cur t (0,0)):=by show (w.heap.push _)[w.heap.size]?=_;simp
 simp only [World.cell?,hb,Bv]
 simpa using hj
theorem rM {P:Program} (w:World) {ops:Array Oper} {rest:List Oper} {o:Oper} {a:Act} {Q:Exit→Act→World→Prop}
 (hgd:o.guard=none) (s x:Operand) (t:TypeId) (hop:o.op=Op.call { callee:=Callee.builtin Builtin.append,args:=#[s,x],argTypes:=#[t,t] })
 (e:TypeId) (i:TypeInfo) (h1:P.underlying t=some (.slice e)) (h2:P.info? e=some i) (h4:i.size=1)
 (g:Nat) (T:TypeId) (k cap:Nat) (xs:Vl) (hs:a.eval s=.slice (some ⟨g,0,none⟩) k cap) (hk:xs.length=k) (hrow:Row w g T cap xs)
 (ad:Addr) (m c:Nat) (news:Vl) (hx:a.eval x=.slice (some ad) m c) (hn:news.length=m) (hc:∀j u,news[j]?=some u→w.cell? (ad.add j)=some u) (h1c:∀u ∈ news,u.oneCell'=true)
 (b1:k+m≤cap)
 (hK:∀w',Row w' g T cap (xs++news)→w.grownBy w' (some g)→wpList P ops Q rest (a.put o.dst (.slice (some ⟨g,0,none⟩) (k+m) cap)) w') :
 wpList P ops Q (o::rest) a w:=by
 refine wpList_plain hgd fun K hK'=>?_
 subst hk;have hrun:=run_append_room_cells (P:=P) w t o.type e i h1 h2 g 0 xs.length cap ad m c news (by rw [h4];omega) hc h1c b1
  (fun j hj=>by rw [h4];simpa using (hrow.there (j:=xs.length+j) (by omega)).1) (fun j hj=>by rw [h4];simpa using (hrow.there (j:=xs.length+j) (by omega)).2)
 unfold Oper.wp;simp [execOp,hop,resolve,invoke,builtin,hs,hx,hrun,Result.andThen];have e1:0+xs.length * i.size=xs.length:=by rw [h4];omega
 simp only [h4,Nat.mul_one];exact hK' _ _ (hK _ (hrow.pushes news (by omega)) (uJ _ _ _ _))
theorem FG {B:Nat} {W a b:World} {e size n:Nat} {v:Value} {xs:Vl} (h:Below B W a) (hown:a.ownsRow B e size v n xs) (k:a.grownBy b v.ownBlock) (hB:B≤a.heap.size):Below B W b:=by
 refine h.grown k hB fun g hg=>?_
 obtain ⟨_,⟨rfl,_⟩ | ⟨g',cap,cur,rfl,hb,_⟩⟩:=hown
 ·simp [Value.ownBlock] at hg
 ·simp [Value.ownBlock] at hg;omega
theorem fG {w w':World} {B e size n:Nat} {v:Value} {xs:Vl} (h:w.ownsRow B e size v n xs) (hb:Below w.heap.size w w'):w'.ownsRow B e size v n xs:=by
 obtain ⟨h1,h2 | ⟨g,cap,cur,hv,hg,hh,r⟩⟩:=h
 ·exact ⟨h1,.inl h2⟩
 ·exact ⟨h1,.inr ⟨g,cap,cur,hv,hg,(hb.block g (Aa hh)).trans hh,r⟩⟩
def aHp (k:IntKind) (w:World) (a:Option Addr) (len cap:Nat) (zs:List Int):Prop:=
 len≤cap∧cap≤maxLen∧zs.length=cap∧(∀i,i<cap→∃b off,a=some ⟨b,off,none⟩∧b<w.heap.size∧w.cell? ⟨b,off+i,none⟩=some (.int k (zs.getD i 0)))∧∀n ∈ zs,(Lit.int k n).wf=true
theorem cD {w:World} {a:Addr} {v:Value} (h:w.cell? a=some v):a.block<w.heap.size:=by
 rcases Cc a.block w.heap.size with h' | h'
 ·exact h'
 ·simp [World.cell?,Array.getElem?_eq_none h'] at h
open Go.ChangeShapes Go.WideShapes Go.ChangeAt in
theorem PV {H:Type} {enc:TypeId × Value→H} {P:Program} {W:World} {t e:TypeId} {k:IntKind} {a:Option Addr} {len cap:Nat} {d:DataW H} {p:List MemPlace}
 (ht:P.underlying t=some (.slice e)) (he:P.underlying e=some (.int k)) (hce:P.cellsOf e=1) (h:DataW.Trod enc P W 0 (fun _=>true) true t (.slice a len cap) d p):∃zs,aHp k W a len cap zs:=by
 obtain ⟨fuel,hf⟩:=h;rcases open_ints ht he hce hf with ⟨hcs,_⟩ | ⟨x,l,c,zs,hcs,_,hl,hm,hz,_,hcell,hwz⟩
 ·simp [Value.cells] at hcs
  obtain ⟨rfl,rfl,rfl⟩:=hcs;exact ⟨[],Lr _,Ax _,rfl,fun i hi=>absurd hi (Nat.not_lt_zero _),fun n hn=>by cases hn⟩
 ·simp [Value.cells] at hcs
  obtain ⟨rfl,rfl,rfl⟩:=hcs;refine ⟨zs,hl,hm,by simpa using hz,fun i hi=>?_,hwz⟩
  have hz':zs.length=cap:=by simpa using hz
  have hc:=hcell i (by omega)
  have hc0:=hcell 0 (by omega)
  obtain ⟨b,off,spot⟩:=x;have hspot:spot=none:=by simpa [Addr.add] using World.cell?_spot hc0
  subst hspot;rw [Bn] at hc;exact ⟨b,off,rfl,cD hc,hc⟩
end Go.Proofs.YtncdpanfefnjlaaGreatDoor
namespace Go.Proofs.YtncdpanfefnjlaaGreatDoor
open Go.Proofs.Tryz
open Go
def aKq:Ub:=[65,66,67,68,69,70,71,72,73,74,75,76,77,78,79,80,81,82,83,84,85,86,87,88,89,90,97,98,99,100,101,102,103,104,105,106,107,108,109,110,111,112,113,114,115,116,117,118,119,120,121,122,48,49,50,51,52,53,54,55,56,57,45,95]
def dig (n:Nat):UInt8:=aKq.getD n 65
def aEy (c:Nat):Nat:=
 if 65≤c∧c≤90 then c - 64 else if 97≤c∧c≤122 then c - 70 else if 48≤c∧c≤57 then c+5 else if c=45 then 63 else if c=95 then 64 else 0
theorem ZL (n:Nat) (h:n<64):aEy (dig n).toNat=n+1:=by
 have:∀n:Fin 64,aEy (dig n.val).toNat=n.val+1:=by decide
 exact this ⟨n,h⟩
def kJ (n count:Nat):Ub:=(List.range count).map fun i=>dig (n / 2 ^ (6 * (count - 1 - i)) % 64)
def aS (l:Ub):Vl:=l.map fun b=>Value.int .u8 (b.toNat:Int)
theorem nF (n count:Nat):(kJ n count).length=count:=by simp [kJ]
theorem jW (l:Ub):(aS l).length=l.length:=by simp [aS]
theorem cP (a b:Ub):aS (a++b)=aS a++aS b:=by simp [aS]
theorem QR (n count j:Nat) (h:j<count):(kJ n count).take (j+1)=(kJ n count).take j++[dig (n / 2 ^ (6 * (count - 1 - j)) % 64)]:=by
 rw [List.take_succ_eq_append_getElem (by simp [kJ];exact h)]
 simp [kJ]
def sZ (l:Ub):Bool:=l.all fun c=>decide (aEy c.toNat ≠ 0)
theorem gQ (s:Bt):s.data.toList.take s.size=s.data.toList:=by
 apply Ao
 show s.data.toList.length≤s.data.size
 simp
def lR:Ub→Ub
 | a::b::c::r=>kJ (a.toNat * 65536+b.toNat * 256+c.toNat) 4++lR r
 | _=>[]
def ML (l:Ub) (i:Nat):Nat:=(l.getD (3 * i) 0).toNat * 65536+(l.getD (3 * i+1) 0).toNat * 256+(l.getD (3 * i+2) 0).toNat
theorem YN (a b c:UInt8) (r:Ub) (i:Nat):ML (a::b::c::r) (i+1)=ML r i:=by
 unfold ML;rw [show 3 * (i+1)=3 * i+3 by omega,show 3 * i+3+1=(3 * i+1)+3 by omega,show 3 * i+3+2=(3 * i+2)+3 by omega]
 rfl
theorem DR:∀ (i:Nat) (l:Ub),3 * (i+1)≤l.length→lR (l.take (3 * (i+1)))=lR (l.take (3 * i))++kJ (ML l i) 4
 | 0,a::b::c::r,_=>by simp [lR,ML]
 | i+1,a::b::c::r,h=>by
  have ih:=DR i r (by simp at h;omega)
  rw [YN,show 3 * (i+1+1)=3 * (i+1)+3 by omega,show 3 * (i+1)=3 * i+3 by omega]
  simp only [Cv,lR];rw [show 3 * i+3=3 * (i+1) by omega,ih,Aj]
 | _,[],h=>by simp at h
 | _,[a],h=>by simp at h;omega
 | _,[a,b],h=>by simp at h;omega
theorem iQ:∀ (n:Nat) (l:Ub),l.length=3 * n→(lR l).length=4 * n
 | 0,l,h=>by obtain rfl:l=[]:=Au.1 (by simpa using h);rfl
 | n+1,a::b::c::r,h=>by
  simp only [lR,Lg,nF,iQ n r (by simp at h;omega)]
  omega
 | n+1,[],h=>by simp at h
 | n+1,[a],h=>by simp at h;omega
 | n+1,[a,b],h=>by simp at h;omega
theorem oP (s:Bt) (a b:Nat) (h:a≤b) (hb:b≤s.size):(s.extract a b).size=b - a:=by
 rw [Dg];omega
theorem lQ (s:Bt) (a b:Nat):(s.extract a b).data.toList=(s.data.toList.take b).drop a:=by
 rw [ByteArray.data_extract];simp [List.drop_take]
theorem xA (s:Bt) (a b i:Nat) (h:i<(s.extract a b).size):(s.extract a b)[i]'h=s.data.toList.getD (a+i) 0:=by
 have h1:i<(s.extract a b).data.toList.length:=by rw [Ah];exact h
 have h2:(s.extract a b)[i]'h=(s.extract a b).data.toList[i]'h1:=rfl;have h3:=Ad (·[i]?) (lQ s a b);simp only [Ac h1,List.getElem?_drop,Df] at h3;rw [h2,List.getD]
 split at h3
 ·rw [←h3];rfl
 ·cases h3
where byts (n:Nat):Ub:=[UInt8.ofNat (n / 65536),UInt8.ofNat (n / 256),UInt8.ofNat n]
theorem wJ (a b:Ub):sZ (a++b)=(sZ a && sZ b):=by simp [sZ]
end Go.Proofs.YtncdpanfefnjlaaGreatDoor
namespace Go.Proofs.YtncdpanfefnjlaaGreatDoor
open Go.Proofs.Tryz
open Go.ChangeShapes Go.WideShapes Go.ChangeAt Go.RowKit
theorem aDu (m:Nat) (h:m<ByteArray.size { data:=#[65,66,67,68,69,70,71,72,73,74,75,76,77,78,79,80,81,82,83,84,85,86,87,88,89,90,97,98,99,100,101,102,103,104,105,106,107,108,109,110,111,112,113,114,115,116,117,118,119,120,121,122,48,49,50,51,52,53,54,55,56,57,45,95] }):({ data:=#[65,66,67,68,69,70,71,72,73,74,75,76,77,78,79,80,81,82,83,84,85,86,87,88,89,90,97,98,99,100,101,102,103,104,105,106,107,108,109,110,111,112,113,114,115,116,117,118,119,120,121,122,48,49,50,51,52,53,54,55,56,57,45,95] }:Bt)[m]'h=dig m:=by
 have all:∀m:Fin 64,({ data:=#[65,66,67,68,69,70,71,72,73,74,75,76,77,78,79,80,81,82,83,84,85,86,87,88,89,90,97,98,99,100,101,102,103,104,105,106,107,108,109,110,111,112,113,114,115,116,117,118,119,120,121,122,48,49,50,51,52,53,54,55,56,57,45,95] }:Bt)[m.val]'(m.isLt)=dig m.val:=by decide
 exact all ⟨m,h⟩
theorem qE:(Tryz.prog.info? 5).map (fun i=>(i.zero,i.size,i.bytes))=some (some (.int .u8 0),1,1):=by kernel_rfl
theorem XJ (n:Int):bits .and .i64 n 63=n % 64:=by
 have h127:(BitVec.ofInt 64 63).toNat=2 ^ 6 - 1:=by decide
 have key:(BitVec.ofInt 64 n &&& BitVec.ofInt 64 63).toNat=(n % ((2 ^ 64:Nat):Int)).toNat % 2 ^ 6:=by
  rw [BitVec.toNat_and,BitVec.toNat_ofInt,h127,Nat.and_two_pow_sub_one_eq_mod]
 show IntKind.i64.wrap ((BitVec.ofInt 64 n &&& BitVec.ofInt 64 63).toNat:Nat)=n % 64
 rw [key,IntKind.wrap_i64];omega
theorem RI (g T k cap:Nat) (n count:Nat) (xs:Vl) (w:World) (hk:xs.length=k) (hrow:Row w g T cap xs) (hc8:count≤8) (hfit:k+count≤cap) (hcap:cap≤maxLen) (hn:n<2 ^ 62) :
 Calls prog 123 #[.slice (some ⟨g,0,none⟩) k cap,Iz n,Iz count] w fun e w'=>e=.returned (.slice (some ⟨g,0,none⟩) (k+count) cap)∧Row w' g T cap (xs++aS (kJ n count))∧w.grownBy w' (some g):=by
 unfold maxLen at hcap;obtain ⟨i0,hi,hz0,hz1,hz2⟩:=info_parts qE
 go_enter func123,ntmps123
 go_wp2
 go_loopw [0,10] (fun v i wr=>∃j:Nat,j≤count∧i=Iz j∧v=.slice (some ⟨g,0,none⟩) (k+j) cap∧Row wr g T cap (xs++aS ((kJ n count).take j))∧w.grownBy wr (some g)) (fun _ i _=>count - (intOf i).toNat)
 case atStart=>exact ⟨0,Ax _,rfl,rfl,by simpa [aS] using hrow,World.grownBy.refl _ _⟩
 case round=>
  obtain ⟨j,hj,rfl,rfl,hr,hg⟩:=hrel
  by_cases hlt:j<count
  ·obtain ⟨m,hm⟩:∃m,m=n / 2 ^ (6 * (count - 1 - j)) % 64:=⟨_,rfl⟩
   have hb:bits BinOp.and IntKind.i64 (↑n / 2 ^ (6 * (count - 1 - j))) 63=(m:Int):=by rw [XJ,hm];simp
   have hm64:m<64:=by rw [hm];exact Nat.mod_lt _ (by decide)
   have HM:Hid (m=n / 2 ^ (6 * (count - 1 - j)) % 64):=hm;clear hm;have ha:=aDu m;have hlen:(xs++aS ((kJ n count).take j)).length=k+j:=by simp [aS,nF,hk];omega
   have HL:=Hh hlen;clear hlen
   go_wp2_with (at_builtin;refine rM _ rfl (.tmp 18) (.tmp 24) 69 rfl 5 i0 underlying69 hi hz1 g T (k+j) cap _ rfl HL.o (hr.alloc _) ⟨wr.heap.size,0,none⟩ 1 1 [.int .u8 (dig m).toNat] rfl rfl (cell_one_new _ _ _) (by intro u hu;simp at hu;subst hu;rfl) (by omega) ?_)
   intro w1 hr1 hg1;have hr2:Row w1 g T cap (xs++aS ((kJ n count).take (j+1))):=by
    rw [QR n count j hlt,cP,←HM.o]
    simpa [aS] using hr1
   have hg2:w.grownBy w1 (some g):=aH hg (aH (dP _ _ _) hg1);clear hr1 hg1 hr hg ha hb
   go_wp2
   go_roundw
   case rel=>exact ⟨j+1,by omega,by go_num,by simp;omega,hr2,hg2⟩
   case measure=>simp [intOf];omega
  ·have:j=count:=by omega
   subst this
   go_wp2
   go_ret
   rw [Ao (by simp [nF])] at hr
   exact ⟨rfl,hr,hg⟩
theorem BO (n:Int) (h₀:0≤n) (h₁:n<2 ^ 62):IntKind.i64.wrap n=n:=by rw [IntKind.wrap_i64];omega
end Go.Proofs.YtncdpanfefnjlaaGreatDoor
namespace Go.Proofs.YtncdpanfefnjlaaGreatDoor
open Go.Proofs.Tryz
open Go
theorem aDv (l:List Nat) (h:∀v ∈ l,v<64):sZ (l.map dig)=true:=by
 unfold sZ;rw [Aw];intro c hc;obtain ⟨v,hv,rfl⟩:=Bl.1 hc;rw [ZL v (h v hv)];simp
theorem YA (n k:Nat):kJ n k=((List.range k).map fun i=>n / 2 ^ (6 * (k - 1 - i)) % 64).map dig:=by
 unfold kJ;rw [Dc];rfl
theorem RJ (n k:Nat):sZ (kJ n k)=true:=by
 rw [YA]
 apply aDv
 intro v hv;obtain ⟨i,_,rfl⟩:=Bl.1 hv;exact Nat.mod_lt _ (by decide)
theorem EC:∀ (q:Nat) (l:Ub),l.length=3 * q→sZ (lR l)=true
 | 0,l,h=>by obtain rfl:l=[]:=Au.1 (by simpa using h);rfl
 | q+1,a::b::c::r,h=>by
  simp only [lR,wJ,RJ,Bool.true_and];exact EC q r (by simp at h;omega)
 | q+1,[],h=>by simp at h
 | q+1,[a],h=>by simp at h;omega
 | q+1,[a,b],h=>by simp at h;omega
def kG:Nat→Ub
 | 1=>[69] | 2=>[68] | 3=>[66] | 4=>[65] | 5=>[48,65] | 6=>[77] | 7=>[83] | 8=>[49,65,65,76] | _=>[]
def kN:Nat→Nat
 | 1=>32 | 2=>32 | 3=>32 | 4=>32 | 5=>16 | 6=>2 | 7=>626 | 8=>6 | _=>0
def lW (c:Nat):Nat:=(3 - kN c % 3) % 3
def vK:Nat→Nat
 | 1=>44 | 2=>44 | 3=>44 | 4=>44 | 5=>24 | 6=>4 | 7=>836 | 8=>12 | _=>0
theorem gO {c:Nat} (h1:1≤c) (h8:c≤8):c=1∨c=2∨c=3∨c=4∨c=5∨c=6∨c=7∨c=8:=by omega
theorem CB (c:Nat) (h1:1≤c) (h8:c≤8):(kG c).length+(lW c+kN c) / 3 * 4=vK c+lW c:=by
 rcases gO h1 h8 with rfl | rfl | rfl | rfl | rfl | rfl | rfl | rfl <;> rfl
theorem KV (c:Nat):(lW c+kN c) % 3=0:=by unfold lW;omega
theorem SX (c:Nat):lW c≤2:=by unfold lW;omega
def xZ (c:Nat) (raw:Ub):Ub:=kG c++(lR (List.replicate (lW c) 0++raw)).drop (lW c)
theorem EL (c:Nat) (h1:1≤c) (h8:c≤8) (raw:Ub) (h:raw.length=kN c):(xZ c raw).length=vK c:=by
 have hm:=KV c;have e:=iQ ((lW c+kN c) / 3) (List.replicate (lW c) 0++raw) (by simp [h];omega)
 have hs:=CB c h1 h8;have hl:=SX c;unfold xZ;rw [Lg,Cb,e];have:lW c≤4 * ((lW c+kN c) / 3):=by
  rcases gO h1 h8 with rfl | rfl | rfl | rfl | rfl | rfl | rfl | rfl <;> decide
 omega
def roI (n:Nat) (x:Int):Int:=bits .or .u32 (x / ((2 ^ n:Nat):Int)) (x * ((2 ^ (32 - n):Nat):Int) % 4294967296)
def sg0 (x:Int):Int:=bits .xor .u32 (bits .xor .u32 (roI 7 x) (roI 18 x)) (x / 8)
def sg1 (y:Int):Int:=bits .xor .u32 (bits .xor .u32 (roI 17 y) (roI 19 y)) (y / 1024)
def aIp (e:Int):Int:=bits .xor .u32 (bits .xor .u32 (roI 6 e) (roI 11 e)) (roI 25 e)
def aJw (a:Int):Int:=bits .xor .u32 (bits .xor .u32 (roI 2 a) (roI 13 a)) (roI 22 a)
def aKm (e:Int):Int:=bits .xor .u32 4294967295 e
def chI (e f g:Int):Int:=bits .xor .u32 (bits .and .u32 e f) (bits .and .u32 (aKm e) g)
def aKn (a b c:Int):Int:=bits .xor .u32 (bits .xor .u32 (bits .and .u32 a b) (bits .and .u32 a c)) (bits .and .u32 b c)
def RU (a b c d:Int):Int:=bits .or .u32 (bits .or .u32 (bits .or .u32 (a * 16777216) (b * 65536)) (c * 256)) d
def YY (l:Ub) (t:Nat):Int:=RU (l.getD (4 * t) 0).toNat (l.getD (4 * t+1) 0).toNat (l.getD (4 * t+2) 0).toNat (l.getD (4 * t+3) 0).toNat
def stF (l:Ub):Nat→List Int
 | 0=>List.replicate 64 0
 | t+1=>(stF l t).set t (YY l t)
def KF (xs:List Int) (t:Nat):Int:=(sg1 (xs.getD (t - 2) 0)+xs.getD (t - 7) 0+sg0 (xs.getD (t - 15) 0)+xs.getD (t - 16) 0) % 4294967296
def exF (xs:List Int):Nat→List Int
 | 0=>xs
 | n+1=>(exF xs n).set (16+n) (KF (exF xs n) (16+n))
def wOf (l:Ub):List Int:=exF (stF l 16) 48
def KL:List Int:=[1116352408,1899447441,3049323471,3921009573,961987163,1508970993,2453635748,2870763221,3624381080,310598401,607225278,1426881987,1925078388,2162078206,2614888103,3248222580,3835390401,4022224774,264347078,604807628,770255983,1249150122,1555081692,1996064986,2554220882,2821834349,2952996808,3210313671,3336571891,3584528711,113926993,338241895,666307205,773529912,1294757372,1396182291,1695183700,1986661051,2177026350,2456956037,2730485921,2820302411,3259730800,3345764771,3516065817,3600352804,4094571909,275423344,430227734,506948616,659060556,883997877,958139571,1322822218,1537002063,1747873779,1955562222,2024104815,2227730452,2361852424,2428436474,2756734187,3204031479,3329325298]
def HL:List Int:=[1779033703,3144134277,1013904242,2773480762,1359893119,2600822924,528734635,1541459225]
def rnd (k w:Int):List Int→List Int
 | [a,b,c,d,e,f,g,h]=>
  [((h+aIp e+chI e f g+k+w) % 4294967296+(aJw a+aKn a b c) % 4294967296) % 4294967296,a,b,c,(d+(h+aIp e+chI e f g+k+w) % 4294967296) % 4294967296,e,f,g]
 | l=>l
def rF (hs W:List Int):Nat→List Int
 | 0=>hs
 | t+1=>rnd (KL.getD t 0) (W.getD t 0) (rF hs W t)
def wQ (hs vs:List Int) (i:Nat):List Int:=(List.range 8).map fun j=>if j<i then (hs.getD j 0+vs.getD j 0) % 4294967296 else hs.getD j 0
def MD (hs W:List Int):List Int:=wQ hs (rF hs W 64) 8
def blk (l:Ub) (n:Nat):Ub:=(l.drop (64 * n)).take 64
def kE (hs:List Int) (l:Ub):Nat→List Int
 | 0=>hs
 | n+1=>MD (kE hs l n) (wOf (blk l n))
def cV (x:Int):UInt8:=UInt8.ofNat (x % 256).toNat
def oF (hs:List Int):Ub:=hs.flatMap fun x=>[cV (x / 16777216),cV (x / 65536),cV (x / 256),cV x]
def be8 (n:Nat):Ub:=(List.range 8).map fun i=>UInt8.ofNat (n / 2 ^ (8 * (7 - i)))
def oE (l:Ub) (n:Nat):Ub:=l++([128]++(List.replicate ((119 - n % 64) % 64) 0++be8 (8 * n)))
def qM (l:Ub):Ub:=oF (kE HL (oE l l.length) ((oE l l.length).length / 64))
theorem mT (l:Ub):∀t,(stF l t).length=64
 | 0=>by simp [stF]
 | t+1=>by simp [stF,mT l t]
theorem rC (xs:List Int) (h:xs.length=64):∀n,(exF xs n).length=64
 | 0=>h
 | n+1=>by simp [exF,rC xs h n]
theorem NQ (l:Ub):(wOf l).length=64:=rC _ (mT _ _) _
theorem aCx {l:List Int} (h:l.length=8):∃a b c d e f g i:Int,l=[a,b,c,d,e,f,g,i]:=by
 match l,h with
 | [a,b,c,d,e,f,g,i],_=>exact ⟨a,b,c,d,e,f,g,i,rfl⟩
theorem oW (hs vs:List Int) (i:Nat):(wQ hs vs i).length=8:=by simp [wQ]
theorem gL (hs:List Int) (l:Ub) (h:hs.length=8):∀n,(kE hs l n).length=8
 | 0=>h
 | n+1=>oW _ _ _
theorem YQ (hs vs:List Int) (h:hs.length=8):wQ hs vs 0=hs:=by
 obtain ⟨a,b,c,d,e,f,g,i,rfl⟩:=aCx h
 rfl
theorem aDw (hs vs:List Int) (i j:Nat) (hj:j<8):(wQ hs vs i).getD j 0=if j<i then (hs.getD j 0+vs.getD j 0) % 4294967296 else hs.getD j 0:=by
 simp [wQ,List.getD,hj]
theorem YR (hs vs:List Int) (i:Nat) (hi:i<8):wQ hs vs (i+1)=(wQ hs vs i).set i ((hs.getD i 0+vs.getD i 0) % 4294967296):=by
 apply List.ext_getElem
 ·simp [wQ]
 ·intro j h1 h2
  simp only [wQ,List.getElem_map,List.getElem_range,List.getElem_set]
  by_cases e:i=j
  ·subst e;simp
  ·have:(j<i+1)=(j<i):=by apply propext;omega
   simp [e,this]
theorem wP (a b:Ub) (m n:Nat) (ha:a.length=64 * m) (h:n<m):blk (a++b) n=blk a n:=by
 unfold blk;rw [List.drop_append,List.take_append_of_le_length (by rw [Cb];omega)]
theorem uT (a b:Ub) (m n:Nat) (ha:a.length=64 * m):blk (a++b) (m+n)=blk b n:=by
 unfold blk;rw [List.drop_append,List.drop_of_length_le (by omega),ha,Dm]
 congr 2
 omega
theorem CQ (hs:List Int) (a b:Ub) (m:Nat) (ha:a.length=64 * m):∀n,n≤m→kE hs (a++b) n=kE hs a n
 | 0,_=>rfl
 | n+1,h=>by
  show MD (kE hs (a++b) n) (wOf (blk (a++b) n))=MD (kE hs a n) (wOf (blk a n))
  rw [CQ hs a b m ha n (by omega),wP a b m n ha (by omega)]
theorem vL (hs:List Int) (a b:Ub) (m:Nat) (ha:a.length=64 * m):∀n,kE hs (a++b) (m+n)=kE (kE hs a m) b n
 | 0=>CQ hs a b m ha m (Lr _)
 | n+1=>by
  show MD (kE hs (a++b) (m+n)) (wOf (blk (a++b) (m+n)))=MD (kE (kE hs a m) b n) (wOf (blk b n))
  rw [vL hs a b m ha n,uT a b m n ha]
theorem RG (n:Nat):(be8 n).length=8:=by simp [be8]
theorem NY (l:Ub) (m:Nat) (hm:m=l.length / 64) :
 qM l=oF (kE (kE HL (l.take (64 * m)) m) (oE (l.drop (64 * m)) l.length) ((oE (l.drop (64 * m)) l.length).length / 64)):=by
 have h1:(l.take (64 * m)).length=64 * m:=by simp;omega
 have e:oE l l.length=l.take (64 * m)++oE (l.drop (64 * m)) l.length:=by
  unfold oE
  conv=>rhs;rw [←Aj (List.take (64 * m) l),Dh]
 have e2:(oE l l.length).length / 64=m+(oE (l.drop (64 * m)) l.length).length / 64:=by
  rw [e,Lg,h1];omega
 unfold qM;rw [e2,e,vL _ _ _ _ h1]
theorem vQ {hs:List Int} (h:hs.length=8):(oF hs).length=32:=by
 obtain ⟨a,b,c,d,e,f,g,i,rfl⟩:=aCx h
 rfl
theorem nZ (l:Ub):(qM l).length=32:=vQ (gL _ _ rfl _)
theorem YL (x:Int):((cV x).toNat:Int)=x % 256:=by
 unfold cV;rw [Be];omega
end Go.Proofs.YtncdpanfefnjlaaGreatDoor