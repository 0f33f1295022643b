import Derived.Test.YtncdpanfefnjlaaGreatDoorAa
import Derived.Test.YtncdpanfefnjlaaGreatDoorRows
set_option linter.unusedVariables false
set_option linter.unusedSimpArgs false
set_option maxRecDepth 100000
namespace Go.Proofs.YtncdpanfefnjlaaGreatDoor
open Go.Proofs.Tryz
open Go Go.RowKit
def Row (w:World) (g:Nat) (T:TypeId) (a:Nat) (d:Vl):Prop:=
 ∃ (b:Array Value) (c:Nat × Nat),w.heap[g]?=some (.cells b T c)∧a≤b.size∧d.length≤a∧b.toList.take d.length=d∧(c=(0,0)∨a≤c.1)
theorem Row.lt {w:World} {g:Nat} {T:TypeId} {a:Nat} {b:Vl} (h:Row w g T a b):g<w.heap.size:=by
 obtain ⟨c,e,d,_⟩:=h;exact Aa d
theorem Row.cellAt {w:World} {g:Nat} {T:TypeId} {b:Nat} {a:Vl} (h:Row w g T b a) {j:Nat} {u:Value} (d:a[j]?=some u):w.cell? ⟨g,j,none⟩=some u:=by
 obtain ⟨c,m,i,l,n,f,k⟩:=h;have e:j<a.length:=by
  rcases Cf j a.length with h | h
  ·exact h
  ·simp [Cb h] at d
 have:c[j]?=some u:=by
  rw [←d,←f,Dn,Am (by omega)]
  simp
 simp [World.cell?,i,this]
theorem Row.there {w:World} {g:Nat} {T:TypeId} {a:Nat} {d:Vl} (h:Row w g T a d) {j:Nat} (i:j<a):(w.cell? ⟨g,j,none⟩).isSome=true∧w.frozen? ⟨g,j,none⟩=false:=by
 obtain ⟨e,l,b,f,m,k,c⟩:=h
 constructor
 ·simp [World.cell?,b];omega
 ·rcases c with rfl | c
  ·simp [World.frozen?,b]
  ·simp [World.frozen?,b];omega
theorem Row.of_block {w w':World} {g:Nat} {T:TypeId} {a:Nat} {c:Vl} (h:Row w g T a c) (e:w'.heap[g]?=w.heap[g]?):Row w' g T a c:=by
 obtain ⟨b,d,f,r⟩:=h;exact ⟨b,d,e.trans f,r⟩
theorem Row.alloc {w:World} {g:Nat} {T:TypeId} {a:Nat} {b:Vl} (h:Row w g T a b) (o:Obj):Row (w.alloc o) g T a b:=
 h.of_block (Bj w o g h.lt)
theorem Row.of_owns {w:World} {base g n k a:Nat} {e:TypeId} {b:Vl} (h:w.ownsRow base e 1 (.slice (some ⟨g,0,none⟩) k a) n b):Row w g e a b∧b.length=n∧base≤g∧a≤maxLen∧k=n:=by
 obtain ⟨q,h | ⟨s,d,c,f,l,p,r,m,j,o⟩⟩:=h
 ·simp at h
 ·simp only [Value.slice.injEq,Option.some.injEq,Addr.mk.injEq] at f
  obtain ⟨⟨rfl,_⟩,rfl,rfl⟩:=f;have i:b.length=k:=by simpa using q
  refine ⟨⟨c,(0,0),p,by simp at j;omega,by omega,?_,.inl rfl⟩,i,l,m,rfl⟩
  rw [i];simpa using o
theorem Row.push {w:World} {g:Nat} {T:TypeId} {b:Nat} {a:Vl} (h:Row w g T b a) (p:a.length<b) (v:Value):Row (w.setCell ⟨g,a.length,none⟩ v) g T b (a++[v]):=by
 have c:=h.lt;obtain ⟨d,e,o,m,q,k,j⟩:=h;refine ⟨d.setIfInBounds a.length v,e,?_,by simpa using m,by simp;omega,?_,j⟩
 ·have n:w.heap[g]=.cells d T e:=by simpa [Cd c] using o
  show (w.heap.modify g _)[g]?=_
  rw [Cd (by simpa using c),Array.getElem_modify_self,n]
  rfl
 ·apply List.ext_getElem?
  intro i;simp only [Lg,Dx,Dn,Array.toList_setIfInBounds]
  by_cases f:i<a.length
  ·rw [Am (by omega),List.getElem?_set_ne (by omega),Cs f]
   have:=Ad (·[i]?) k;simp only [Dn,Am f] at this;exact this
  ·by_cases l:i=a.length
   ·subst l
    rw [Am (by omega),List.getElem?_set_self (by simp;omega)]
    simp
   ·rw [Ae (by omega),Dr (by omega)]
    symm
    apply Cb
    simp;omega
theorem Row.pushes {g:Nat} {T:TypeId} {b:Nat}:∀ (a:Vl) {w:World} {c:Vl},Row w g T b c→c.length+a.length≤b→Row (w.setCells g c.length a) g T b (c++a)
 | [],w,c,h,_=>by simpa [World.setCells] using h
 | v::r,w,c,h,hr=>by
  have d:=h.push (by simp at hr;omega) v
  have e:=Row.pushes r d (by simp at hr ⊢;omega)
  simpa [World.setCells] using e
theorem vL (w:World) (g o:Nat) (b:Vl):w.grownBy (w.setCells g o b) (some g):=by
 have a:=World.keptBut_setCells g (may:=fun p=>p.block=g) b o w (fun _ _=>rfl)
 refine ⟨a.1,?_,a.2.1,?_,fun k d c=>World.heap_setCells_other w g o b d (fun e=>c (by rw [e]))⟩
 ·clear a
  induction b generalizing w o with
  | nil=>rfl
  | cons v r ih=>exact (ih _ _).trans rfl
 ·clear a
  induction b generalizing w o with
  | nil=>exact Lr _
  | cons v r ih=>exact Af (by simp [World.setCell]) (ih _ _)
theorem aJ {a b c:World} {row:Option Nat} (h:a.grownBy b row) (k:b.grownBy c row):a.grownBy c row:=
 ⟨k.os.trans h.os,k.tape.trans h.tape,k.output.trans h.output,Af h.size k.size,fun i e d=>(k.block i (Ll e h.size) d).trans (h.block i e d)⟩
theorem dV (w:World) (o:Obj) (row:Option Nat):w.grownBy (w.alloc o) row:=
 ⟨rfl,rfl,rfl,by simp,fun k a _=>Bj w o k a⟩
theorem gI {W a b:World} {B g:Nat} (h:Below B W a) (k:a.grownBy b (some g)) (d:B≤a.heap.size) (c:B≤g):Below B W b:=
 h.grown k d (fun _ e=>by cases e;exact c)
theorem BY {P:Program} (w:World) (a c e:TypeId) (g:Nat) (T:TypeId) (k f:Nat) {d:Nat} (l:Ub) (m:l.length=k) (n:Row w g T d (l.map fun b=>Value.int .u8 (b.toNat:Int)))
 (i:P.underlying a=some (.slice e)) (h:P.underlying e=some (.int .u8)) (o:P.underlying c=some .string) :
 (convert a c (.slice (some ⟨g,0,none⟩) k f)).run P w=.ok (.string ⟨l.toArray⟩) w:=by
 subst m;refine run_convert_bytes_back w a c e ⟨g,0,none⟩ f l i h o fun j p=>?_
 rw [Bs]
 simpa using n.cellAt (j:=j) (u:=.int .u8 (l[j].toNat:Int)) (by simp [p])
theorem eA {P:Program} (w:World) (a c e:TypeId) (base n:Nat) (v:Value) (l:Ub) (h:w.ownsRow base e 1 v n (l.map fun b=>Value.int .u8 (b.toNat:Int)))
 (j:P.underlying a=some (.slice e)) (k:P.underlying e=some (.int .u8)) (m:P.underlying c=some .string) :
 (convert a c v).run P w=.ok (.string ⟨l.toArray⟩) w:=by
 obtain ⟨o,⟨rfl,rfl⟩ | ⟨g,d,f,rfl,r⟩⟩:=h
 ·have:l=[]:=Aw.1 (by simpa using o)
  subst this;rw [run_convert_bytes_string w a c e none 0 0 j k m];simp [Conv.bytesToString]
  rfl
 ·have p:w.ownsRow base e 1 (.slice (some ⟨g,0,none⟩) n d) n (l.map fun b=>Value.int .u8 (b.toNat:Int)):=⟨o,.inr ⟨g,d,f,rfl,r⟩⟩
  obtain ⟨q,i,_⟩:=Row.of_owns p;exact BY w a c e g e n d l (by simpa using i) q j k m
theorem Row.drewN {w:World} {g:Nat} {T:TypeId} {a:Nat} {b:Vl} (h:Row w g T a b) (n:Nat):Row (w.drewN n) g T a b:=h
theorem vX {B:Nat} {a w:World} (h:Below B a w) (n:Nat):Below B a (w.drewN n):=⟨h.os,h.tape,h.output,h.size,h.block⟩
theorem cX (w:World) (a:Array Value) (t:TypeId) (b:Vl) (h:a.toList=b):∀j u,b[j]?=some u→(w.alloc (.cells a t)).cell? ((⟨w.heap.size,0,none⟩:Addr).add j)=some u:=by
 intro j u d;subst h;rw [Bs];have c:(w.alloc (.cells a t)).heap[w.heap.size]?=some (.cells a t (0,0)):=by show (w.heap.push _)[w.heap.size]?=_;simp
 simp only [World.cell?,c,Ca]
 simpa using d
theorem sL {P:Program} (w:World) {p:Array Oper} {rest:List Oper} {o:Oper} {a:Act} {Q:Exit→Act→World→Prop}
 (y:o.guard=none) (s x:Operand) (t:TypeId) (z:o.op=Op.call { callee:=Callee.builtin Builtin.append,args:=#[s,x],argTypes:=#[t,t] })
 (e:TypeId) (i:TypeInfo) (A:P.underlying t=some (.slice e)) (B:P.info? e=some i) (l:i.size=1)
 (g:Nat) (T:TypeId) (k d:Nat) (h:Vl) (G:a.eval s=.slice (some ⟨g,0,none⟩) k d) (I:h.length=k) (f:Row w g T d h)
 (r:Addr) (m c:Nat) (b:Vl) (H:a.eval x=.slice (some r) m c) (L:b.length=m) (C:∀j u,b[j]?=some u→w.cell? (r.add j)=some u) (q:∀u ∈ b,u.oneCell'=true)
 (D:k+m≤d)
 (E:∀w',Row w' g T d (h++b)→w.grownBy w' (some g)→wpList P p Q rest (a.put o.dst (.slice (some ⟨g,0,none⟩) (k+m) d)) w') :
 wpList P p Q (o::rest) a w:=by
 refine wpList_plain y fun K v=>?_
 subst I;have n:=run_append_room_cells (P:=P) w t o.type e i A B g 0 h.length d r m c b (by rw [l];omega) C q D
  (fun j F=>by rw [l];simpa using (f.there (j:=h.length+j) (by omega)).1) (fun j F=>by rw [l];simpa using (f.there (j:=h.length+j) (by omega)).2)
 unfold Oper.wp;simp [execOp,z,resolve,invoke,builtin,G,H,n,Result.andThen];have J:0+h.length * i.size=h.length:=by rw [l];omega
 simp only [l,Nat.mul_one];exact v _ _ (E _ (f.pushes b (by omega)) (vL _ _ _ _))
theorem iG {B:Nat} {W a b:World} {e size n:Nat} {v:Value} {f:Vl} (h:Below B W a) (c:a.ownsRow B e size v n f) (k:a.grownBy b v.ownBlock) (i:B≤a.heap.size):Below B W b:=by
 refine h.grown k i fun g d=>?_
 obtain ⟨_,⟨rfl,_⟩ | ⟨o,j,l,rfl,m,_⟩⟩:=c
 ·simp [Value.ownBlock] at d
 ·simp [Value.ownBlock] at d;omega
theorem fQ {w w':World} {B e size n:Nat} {v:Value} {c:Vl} (h:w.ownsRow B e size v n c) (i:Below w.heap.size w w'):w'.ownsRow B e size v n c:=by
 obtain ⟨d,l | ⟨g,a,b,k,j,f,r⟩⟩:=h
 ·exact ⟨d,.inl l⟩
 ·exact ⟨d,.inr ⟨g,a,b,k,j,(i.block g (Aa f)).trans f,r⟩⟩
def aJg (k:IntKind) (w:World) (a:Option Addr) (e c:Nat) (zs:List Int):Prop:=
 e≤c∧c≤maxLen∧zs.length=c∧(∀i,i<c→∃b d,a=some ⟨b,d,none⟩∧b<w.heap.size∧w.cell? ⟨b,d+i,none⟩=some (.int k (zs.getD i 0)))∧∀n ∈ zs,(Lit.int k n).wf=true
theorem cD {w:World} {a:Addr} {v:Value} (h:w.cell? a=some v):a.block<w.heap.size:=by
 rcases Cf a.block w.heap.size with b | b
 ·exact b
 ·simp [World.cell?,Array.getElem?_eq_none b] at h
open Go.ChangeShapes Go.WideShapes Go.ChangeAt in
theorem RR {H:Type} {s:TypeId × Value→H} {P:Program} {W:World} {t e:TypeId} {k:IntKind} {a:Option Addr} {q m:Nat} {d:DataW H} {p:List MemPlace}
 (E:P.underlying t=some (.slice e)) (J:P.underlying e=some (.int k)) (v:P.cellsOf e=1) (h:DataW.Trod s P W 0 (fun _=>true) true t (.slice a q m) d p):∃zs,aJg k W a q m zs:=by
 obtain ⟨B,I⟩:=h;rcases open_ints E J v I with ⟨g,_⟩ | ⟨x,l,c,zs,g,_,G,D,A,_,f,w⟩
 ·simp [Value.cells] at g
  obtain ⟨rfl,rfl,rfl⟩:=g;exact ⟨[],Lr _,Av _,rfl,fun i z=>absurd z (Nat.not_lt_zero _),fun n C=>by cases C⟩
 ·simp [Value.cells] at g
  obtain ⟨rfl,rfl,rfl⟩:=g;refine ⟨zs,G,D,by simpa using A,fun i z=>?_,w⟩
  have F:zs.length=m:=by simpa using A
  have r:=f i (by omega)
  have u:=f 0 (by omega)
  obtain ⟨b,y,o⟩:=x;have j:o=none:=by simpa [Addr.add] using World.cell?_spot u
  subst j;rw [Bs] at r;exact ⟨b,y,rfl,cD r,r⟩
end Go.Proofs.YtncdpanfefnjlaaGreatDoor
namespace Go.Proofs.YtncdpanfefnjlaaGreatDoor
open Go.Proofs.Tryz
open Go
def aMe:Ub:=[65,66,67,68,69,70,71,72,73,74,75,76,77,78,79,80,81,82,83,84,85,86,87,88,89,90,97,98,99,100,101,102,103,104,105,106,107,108,109,110,111,112,113,114,115,116,117,118,119,120,121,122,48,49,50,51,52,53,54,55,56,57,45,95]
def dig (n:Nat):UInt8:=aMe.getD n 65
def aGk (c:Nat):Nat:=
 if 65≤c∧c≤90 then c - 64 else if 97≤c∧c≤122 then c - 70 else if 48≤c∧c≤57 then c+5 else if c=45 then 63 else if c=95 then 64 else 0
theorem aBb (n:Nat) (h:n<64):aGk (dig n).toNat=n+1:=by
 have:∀n:Fin 64,aGk (dig n.val).toNat=n.val+1:=by decide
 exact this ⟨n,h⟩
def kZ (n a:Nat):Ub:=(List.range a).map fun i=>dig (n / 2 ^ (6 * (a - 1 - i)) % 64)
def aS (l:Ub):Vl:=l.map fun b=>Value.int .u8 (b.toNat:Int)
theorem nV (n a:Nat):(kZ n a).length=a:=by simp [kZ]
theorem kK (l:Ub):(aS l).length=l.length:=by simp [aS]
theorem cF (a b:Ub):aS (a++b)=aS a++aS b:=by simp [aS]
theorem SQ (n a j:Nat) (h:j<a):(kZ n a).take (j+1)=(kZ n a).take j++[dig (n / 2 ^ (6 * (a - 1 - j)) % 64)]:=by
 rw [List.take_succ_eq_append_getElem (by simp [kZ];exact h)]
 simp [kZ]
def uB (l:Ub):Bool:=l.all fun c=>decide (aGk c.toNat ≠ 0)
theorem iB (s:Bt):s.data.toList.take s.size=s.data.toList:=by
 apply Ak
 show s.data.toList.length≤s.data.size
 simp
def mF:Ub→Ub
 | a::b::c::r=>kZ (a.toNat * 65536+b.toNat * 256+c.toNat) 4++mF r
 | _=>[]
def OJ (l:Ub) (i:Nat):Nat:=(l.getD (3 * i) 0).toNat * 65536+(l.getD (3 * i+1) 0).toNat * 256+(l.getD (3 * i+2) 0).toNat
theorem aAe (a b c:UInt8) (r:Ub) (i:Nat):OJ (a::b::c::r) (i+1)=OJ r i:=by
 unfold OJ;rw [show 3 * (i+1)=3 * i+3 by omega,show 3 * i+3+1=(3 * i+1)+3 by omega,show 3 * i+3+2=(3 * i+2)+3 by omega]
 rfl
theorem FP:∀ (i:Nat) (l:Ub),3 * (i+1)≤l.length→mF (l.take (3 * (i+1)))=mF (l.take (3 * i))++kZ (OJ l i) 4
 | 0,a::b::c::r,_=>by simp [mF,OJ]
 | i+1,a::b::c::r,h=>by
  have d:=FP i r (by simp at h;omega)
  rw [aAe,show 3 * (i+1+1)=3 * (i+1)+3 by omega,show 3 * (i+1)=3 * i+3 by omega]
  simp only [Cx,mF];rw [show 3 * i+3=3 * (i+1) by omega,d,Aj]
 | _,[],h=>by simp at h
 | _,[a],h=>by simp at h;omega
 | _,[a,b],h=>by simp at h;omega
theorem iZ:∀ (n:Nat) (l:Ub),l.length=3 * n→(mF l).length=4 * n
 | 0,l,h=>by obtain rfl:l=[]:=Aw.1 (by simpa using h);rfl
 | n+1,a::b::c::r,h=>by
  simp only [mF,Lg,nV,iZ n r (by simp at h;omega)]
  omega
 | n+1,[],h=>by simp at h
 | n+1,[a],h=>by simp at h;omega
 | n+1,[a,b],h=>by simp at h;omega
theorem pL (s:Bt) (a b:Nat) (h:a≤b) (c:b≤s.size):(s.extract a b).size=b - a:=by
 rw [Do];omega
theorem mE (s:Bt) (a b:Nat):(s.extract a b).data.toList=(s.data.toList.take b).drop a:=by
 rw [ByteArray.data_extract];simp [List.drop_take]
theorem yH (s:Bt) (a b i:Nat) (h:i<(s.extract a b).size):(s.extract a b)[i]'h=s.data.toList.getD (a+i) 0:=by
 have d:i<(s.extract a b).data.toList.length:=by rw [Ah];exact h
 have e:(s.extract a b)[i]'h=(s.extract a b).data.toList[i]'d:=rfl;have c:=Ad (·[i]?) (mE s a b);simp only [Ac d,List.getElem?_drop,Dn] at c;rw [e,List.getD]
 split at c
 ·rw [←c];rfl
 ·cases c
where byts (n:Nat):Ub:=[UInt8.ofNat (n / 65536),UInt8.ofNat (n / 256),UInt8.ofNat n]
theorem xO (a b:Ub):uB (a++b)=(uB a && uB b):=by simp [uB]
end Go.Proofs.YtncdpanfefnjlaaGreatDoor
namespace Go.Proofs.YtncdpanfefnjlaaGreatDoor
open Go.Proofs.Tryz
open Go.ChangeShapes Go.WideShapes Go.ChangeAt Go.RowKit
theorem aFj (m:Nat) (h:m<ByteArray.size { data:=#[65,66,67,68,69,70,71,72,73,74,75,76,77,78,79,80,81,82,83,84,85,86,87,88,89,90,97,98,99,100,101,102,103,104,105,106,107,108,109,110,111,112,113,114,115,116,117,118,119,120,121,122,48,49,50,51,52,53,54,55,56,57,45,95] }):({ data:=#[65,66,67,68,69,70,71,72,73,74,75,76,77,78,79,80,81,82,83,84,85,86,87,88,89,90,97,98,99,100,101,102,103,104,105,106,107,108,109,110,111,112,113,114,115,116,117,118,119,120,121,122,48,49,50,51,52,53,54,55,56,57,45,95] }:Bt)[m]'h=dig m:=by
 have a:∀m:Fin 64,({ data:=#[65,66,67,68,69,70,71,72,73,74,75,76,77,78,79,80,81,82,83,84,85,86,87,88,89,90,97,98,99,100,101,102,103,104,105,106,107,108,109,110,111,112,113,114,115,116,117,118,119,120,121,122,48,49,50,51,52,53,54,55,56,57,45,95] }:Bt)[m.val]'(m.isLt)=dig m.val:=by decide
 exact a ⟨m,h⟩
theorem nA:(Tryz.prog.info? 5).map (fun i=>(i.zero,i.size,i.bytes))=some (some (.int .u8 0),1,1):=by kernel_rfl
theorem ZA (n:Int):bits .and .i64 n 63=n % 64:=by
 have a:(BitVec.ofInt 64 63).toNat=2 ^ 6 - 1:=by decide
 have b:(BitVec.ofInt 64 n &&& BitVec.ofInt 64 63).toNat=(n % ((2 ^ 64:Nat):Int)).toNat % 2 ^ 6:=by
  rw [BitVec.toNat_and,BitVec.toNat_ofInt,a,Nat.and_two_pow_sub_one_eq_mod]
 show IntKind.i64.wrap ((BitVec.ofInt 64 n &&& BitVec.ofInt 64 63).toNat:Nat)=n % 64
 rw [b,IntKind.wrap_i64];omega
theorem TL (g T k b:Nat) (n a:Nat) (d:Vl) (w:World) (K:d.length=k) (f:Row w g T b d) (L:a≤8) (B:k+a≤b) (h:b≤maxLen) (N:n<2 ^ 62) :
 Calls prog 123 #[.slice (some ⟨g,0,none⟩) k b,Iz n,Iz a] w fun e w'=>e=.returned (.slice (some ⟨g,0,none⟩) (k+a) b)∧Row w' g T b (d++aS (kZ n a))∧w.grownBy w' (some g):=by
 unfold maxLen at h;obtain ⟨J,G,I,x,F⟩:=Ea nA
 go_enter func123,ntmps123
 go_wp2
 go_loopw [0,10] (fun v i wr=>∃j:Nat,j≤a∧i=Iz j∧v=.slice (some ⟨g,0,none⟩) (k+j) b∧Row wr g T b (d++aS ((kZ n a).take j))∧w.grownBy wr (some g)) (fun _ i _=>a - (intOf i).toNat)
 case atStart=>exact ⟨0,Av _,rfl,rfl,by simpa [aS] using f,World.grownBy.refl _ _⟩
 case round=>
  obtain ⟨j,O,rfl,rfl,q,t⟩:=hrel
  by_cases z:j<a
  ·obtain ⟨m,r⟩:∃m,m=n / 2 ^ (6 * (a - 1 - j)) % 64:=⟨_,rfl⟩
   have H:bits BinOp.and IntKind.i64 (↑n / 2 ^ (6 * (a - 1 - j))) 63=(m:Int):=by rw [ZA,r];simp
   have D:m<64:=by rw [r];exact Nat.mod_lt _ (by decide)
   have E:Hid (m=n / 2 ^ (6 * (a - 1 - j)) % 64):=r;clear r;have M:=aFj m;have c:(d++aS ((kZ n a).take j)).length=k+j:=by simp [aS,nV,K];omega
   have HL:=Hh c;clear c
   go_wp2_with (at_builtin;refine sL _ rfl (.tmp 18) (.tmp 24) 69 rfl 5 J underlying69 G x g T (k+j) b _ rfl HL.o (q.alloc _) ⟨wr.heap.size,0,none⟩ 1 1 [.int .u8 (dig m).toNat] rfl rfl (cell_one_new _ _ _) (by intro u C;simp at C;subst C;rfl) (by omega) ?_)
   intro A p l;have y:Row A g T b (d++aS ((kZ n a).take (j+1))):=by
    rw [SQ n a j z,cF,←E.o]
    simpa [aS] using p
   have s:w.grownBy A (some g):=aJ t (aJ (dV _ _ _) l);clear p l q t M H
   go_wp2
   go_roundw
   case rel=>exact ⟨j+1,by omega,by go_num,by simp;omega,y,s⟩
   case measure=>simp [intOf];omega
  ·have:j=a:=by omega
   subst this
   go_wp2
   go_ret
   rw [Ak (by simp [nV])] at q
   exact ⟨rfl,q,t⟩
theorem DO (n:Int) (a:0≤n) (b:n<2 ^ 62):IntKind.i64.wrap n=n:=by rw [IntKind.wrap_i64];omega
end Go.Proofs.YtncdpanfefnjlaaGreatDoor
namespace Go.Proofs.YtncdpanfefnjlaaGreatDoor
open Go.Proofs.Tryz
open Go
theorem aFk (l:List Nat) (h:∀v ∈ l,v<64):uB (l.map dig)=true:=by
 unfold uB;rw [Ax];intro c a;obtain ⟨v,b,rfl⟩:=Bp.1 a;rw [aBb v (h v b)];simp
theorem ZQ (n k:Nat):kZ n k=((List.range k).map fun i=>n / 2 ^ (6 * (k - 1 - i)) % 64).map dig:=by
 unfold kZ;rw [Di];rfl
theorem TM (n k:Nat):uB (kZ n k)=true:=by
 rw [ZQ]
 apply aFk
 intro v a;obtain ⟨i,_,rfl⟩:=Bp.1 a;exact Nat.mod_lt _ (by decide)
theorem GB:∀ (q:Nat) (l:Ub),l.length=3 * q→uB (mF l)=true
 | 0,l,h=>by obtain rfl:l=[]:=Aw.1 (by simpa using h);rfl
 | q+1,a::b::c::r,h=>by
  simp only [mF,xO,TM,Bool.true_and];exact GB q r (by simp at h;omega)
 | q+1,[],h=>by simp at h
 | q+1,[a],h=>by simp at h;omega
 | q+1,[a,b],h=>by simp at h;omega
def kU:Nat→Ub
 | 1=>[69] | 2=>[68] | 3=>[66] | 4=>[65] | 5=>[48,65] | 6=>[77] | 7=>[83] | 8=>[49,65,65,76] | _=>[]
def lC:Nat→Nat
 | 1=>32 | 2=>32 | 3=>32 | 4=>32 | 5=>16 | 6=>2 | 7=>626 | 8=>6 | _=>0
def mL (c:Nat):Nat:=(3 - lC c % 3) % 3
def wN:Nat→Nat
 | 1=>44 | 2=>44 | 3=>44 | 4=>44 | 5=>24 | 6=>4 | 7=>836 | 8=>12 | _=>0
theorem iA {c:Nat} (a:1≤c) (b:c≤8):c=1∨c=2∨c=3∨c=4∨c=5∨c=6∨c=7∨c=8:=by omega
theorem EA (c:Nat) (a:1≤c) (b:c≤8):(kU c).length+(mL c+lC c) / 3 * 4=wN c+mL c:=by
 rcases iA a b with rfl | rfl | rfl | rfl | rfl | rfl | rfl | rfl <;> rfl
theorem MN (c:Nat):(mL c+lC c) % 3=0:=by unfold mL;omega
theorem US (c:Nat):mL c≤2:=by unfold mL;omega
def zF (c:Nat) (a:Ub):Ub:=kU c++(mF (List.replicate (mL c) 0++a)).drop (mL c)
theorem GK (c:Nat) (d:1≤c) (b:c≤8) (a:Ub) (h:a.length=lC c):(zF c a).length=wN c:=by
 have f:=MN c;have e:=iZ ((mL c+lC c) / 3) (List.replicate (mL c) 0++a) (by simp [h];omega)
 have g:=EA c d b;have i:=US c;unfold zF;rw [Lg,Ce,e];have:mL c≤4 * ((mL c+lC c) / 3):=by
  rcases iA d b with rfl | rfl | rfl | rfl | rfl | rfl | rfl | rfl <;> decide
 omega
def roI (n:Nat) (x:Int):Int:=bits .or .u32 (x / ((2 ^ n:Nat):Int)) (x * ((2 ^ (32 - n):Nat):Int) % 4294967296)
def sg0 (x:Int):Int:=bits .xor .u32 (bits .xor .u32 (roI 7 x) (roI 18 x)) (x / 8)
def sg1 (y:Int):Int:=bits .xor .u32 (bits .xor .u32 (roI 17 y) (roI 19 y)) (y / 1024)
def aKf (e:Int):Int:=bits .xor .u32 (bits .xor .u32 (roI 6 e) (roI 11 e)) (roI 25 e)
def aLl (a:Int):Int:=bits .xor .u32 (bits .xor .u32 (roI 2 a) (roI 13 a)) (roI 22 a)
def aMb (e:Int):Int:=bits .xor .u32 4294967295 e
def chI (e f g:Int):Int:=bits .xor .u32 (bits .and .u32 e f) (bits .and .u32 (aMb e) g)
def aMc (a b c:Int):Int:=bits .xor .u32 (bits .xor .u32 (bits .and .u32 a b) (bits .and .u32 a c)) (bits .and .u32 b c)
def TY (a b c d:Int):Int:=bits .or .u32 (bits .or .u32 (bits .or .u32 (a * 16777216) (b * 65536)) (c * 256)) d
def aAp (l:Ub) (t:Nat):Int:=TY (l.getD (4 * t) 0).toNat (l.getD (4 * t+1) 0).toNat (l.getD (4 * t+2) 0).toNat (l.getD (4 * t+3) 0).toNat
def stF (l:Ub):Nat→List Int
 | 0=>List.replicate 64 0
 | t+1=>(stF l t).set t (aAp l t)
def MA (a:List Int) (t:Nat):Int:=(sg1 (a.getD (t - 2) 0)+a.getD (t - 7) 0+sg0 (a.getD (t - 15) 0)+a.getD (t - 16) 0) % 4294967296
def exF (a:List Int):Nat→List Int
 | 0=>a
 | n+1=>(exF a n).set (16+n) (MA (exF a n) (16+n))
def wOf (l:Ub):List Int:=exF (stF l 16) 48
def KL:List Int:=[1116352408,1899447441,3049323471,3921009573,961987163,1508970993,2453635748,2870763221,3624381080,310598401,607225278,1426881987,1925078388,2162078206,2614888103,3248222580,3835390401,4022224774,264347078,604807628,770255983,1249150122,1555081692,1996064986,2554220882,2821834349,2952996808,3210313671,3336571891,3584528711,113926993,338241895,666307205,773529912,1294757372,1396182291,1695183700,1986661051,2177026350,2456956037,2730485921,2820302411,3259730800,3345764771,3516065817,3600352804,4094571909,275423344,430227734,506948616,659060556,883997877,958139571,1322822218,1537002063,1747873779,1955562222,2024104815,2227730452,2361852424,2428436474,2756734187,3204031479,3329325298]
def HL:List Int:=[1779033703,3144134277,1013904242,2773480762,1359893119,2600822924,528734635,1541459225]
def rnd (k w:Int):List Int→List Int
 | [a,b,c,d,e,f,g,h]=>
  [((h+aKf e+chI e f g+k+w) % 4294967296+(aLl a+aMc a b c) % 4294967296) % 4294967296,a,b,c,(d+(h+aKf e+chI e f g+k+w) % 4294967296) % 4294967296,e,f,g]
 | l=>l
def rF (a W:List Int):Nat→List Int
 | 0=>a
 | t+1=>rnd (KL.getD t 0) (W.getD t 0) (rF a W t)
def xV (a b:List Int) (i:Nat):List Int:=(List.range 8).map fun j=>if j<i then (a.getD j 0+b.getD j 0) % 4294967296 else a.getD j 0
def OB (a W:List Int):List Int:=xV a (rF a W 64) 8
def blk (l:Ub) (n:Nat):Ub:=(l.drop (64 * n)).take 64
def kQ (a:List Int) (l:Ub):Nat→List Int
 | 0=>a
 | n+1=>OB (kQ a l n) (wOf (blk l n))
def dC (x:Int):UInt8:=UInt8.ofNat (x % 256).toNat
def pA (a:List Int):Ub:=a.flatMap fun x=>[dC (x / 16777216),dC (x / 65536),dC (x / 256),dC x]
def be8 (n:Nat):Ub:=(List.range 8).map fun i=>UInt8.ofNat (n / 2 ^ (8 * (7 - i)))
def oZ (l:Ub) (n:Nat):Ub:=l++([128]++(List.replicate ((119 - n % 64) % 64) 0++be8 (8 * n)))
def rM (l:Ub):Ub:=pA (kQ HL (oZ l l.length) ((oZ l l.length).length / 64))
theorem nI (l:Ub):∀t,(stF l t).length=64
 | 0=>by simp [stF]
 | t+1=>by simp [stF,nI l t]
theorem rZ (a:List Int) (h:a.length=64):∀n,(exF a n).length=64
 | 0=>h
 | n+1=>by simp [exF,rZ a h n]
theorem PK (l:Ub):(wOf l).length=64:=rZ _ (nI _ _) _
theorem aEn {l:List Int} (h:l.length=8):∃a b c d e f g i:Int,l=[a,b,c,d,e,f,g,i]:=by
 match l,h with
 | [a,b,c,d,e,f,g,i],_=>exact ⟨a,b,c,d,e,f,g,i,rfl⟩
theorem pT (b a:List Int) (i:Nat):(xV b a i).length=8:=by simp [xV]
theorem gY (a:List Int) (l:Ub) (h:a.length=8):∀n,(kQ a l n).length=8
 | 0=>h
 | n+1=>pT _ _ _
theorem aAh (j k:List Int) (h:j.length=8):xV j k 0=j:=by
 obtain ⟨a,b,c,d,e,f,g,i,rfl⟩:=aEn h
 rfl
theorem aFl (a b:List Int) (i j:Nat) (c:j<8):(xV a b i).getD j 0=if j<i then (a.getD j 0+b.getD j 0) % 4294967296 else a.getD j 0:=by
 simp [xV,List.getD,c]
theorem aAi (b a:List Int) (i:Nat) (f:i<8):xV b a (i+1)=(xV b a i).set i ((b.getD i 0+a.getD i 0) % 4294967296):=by
 apply List.ext_getElem
 ·simp [xV]
 ·intro j c d
  simp only [xV,List.getElem_map,List.getElem_range,List.getElem_set]
  by_cases e:i=j
  ·subst e;simp
  ·have:(j<i+1)=(j<i):=by apply propext;omega
   simp [e,this]
theorem xU (a b:Ub) (m n:Nat) (c:a.length=64 * m) (h:n<m):blk (a++b) n=blk a n:=by
 unfold blk;rw [List.drop_append,List.take_append_of_le_length (by rw [Ce];omega)]
theorem vW (a b:Ub) (m n:Nat) (c:a.length=64 * m):blk (a++b) (m+n)=blk b n:=by
 unfold blk;rw [List.drop_append,List.drop_of_length_le (by omega),c,Ds]
 congr 2
 omega
theorem EJ (c:List Int) (a b:Ub) (m:Nat) (d:a.length=64 * m):∀n,n≤m→kQ c (a++b) n=kQ c a n
 | 0,_=>rfl
 | n+1,h=>by
  show OB (kQ c (a++b) n) (wOf (blk (a++b) n))=OB (kQ c a n) (wOf (blk a n))
  rw [EJ c a b m d n (by omega),xU a b m n d (by omega)]
theorem wO (c:List Int) (a b:Ub) (m:Nat) (d:a.length=64 * m):∀n,kQ c (a++b) (m+n)=kQ (kQ c a m) b n
 | 0=>EJ c a b m d m (Lr _)
 | n+1=>by
  show OB (kQ c (a++b) (m+n)) (wOf (blk (a++b) (m+n)))=OB (kQ (kQ c a m) b n) (wOf (blk b n))
  rw [wO c a b m d n,vW a b m n d]
theorem TH (n:Nat):(be8 n).length=8:=by simp [be8]
theorem PS (l:Ub) (m:Nat) (c:m=l.length / 64) :
 rM l=pA (kQ (kQ HL (l.take (64 * m)) m) (oZ (l.drop (64 * m)) l.length) ((oZ (l.drop (64 * m)) l.length).length / 64)):=by
 have a:(l.take (64 * m)).length=64 * m:=by simp;omega
 have e:oZ l l.length=l.take (64 * m)++oZ (l.drop (64 * m)) l.length:=by
  unfold oZ
  conv=>rhs;rw [←Aj (List.take (64 * m) l),De]
 have b:(oZ l l.length).length / 64=m+(oZ (l.drop (64 * m)) l.length).length / 64:=by
  rw [e,Lg,a];omega
 unfold rM;rw [b,e,wO _ _ _ _ a]
theorem wU {j:List Int} (h:j.length=8):(pA j).length=32:=by
 obtain ⟨a,b,c,d,e,f,g,i,rfl⟩:=aEn h
 rfl
theorem oU (l:Ub):(rM l).length=32:=wU (gY _ _ rfl _)
theorem aAc (x:Int):((dC x).toNat:Int)=x % 256:=by
 unfold dC;rw [Bb];omega
end Go.Proofs.YtncdpanfefnjlaaGreatDoor