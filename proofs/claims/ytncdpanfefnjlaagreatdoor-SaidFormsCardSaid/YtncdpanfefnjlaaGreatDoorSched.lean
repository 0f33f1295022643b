import Derived.Test.YtncdpanfefnjlaaGreatDoorRows
import Derived.Test.YtncdpanfefnjlaaGreatDoorSha
set_option linter.unusedVariables false
set_option linter.unusedSimpArgs false
set_option maxRecDepth 100000
namespace Go.Proofs.YtncdpanfefnjlaaGreatDoor
open Go.Proofs.Tryz
open Go.ChangeShapes Go.WideShapes Go.ChangeAt Go.RowKit
def aBg (l:Ub):Bt:=⟨l.toArray⟩
theorem IS (s:Bt) (w:World) (h:65536<s.size) (a:s.size≤maxLen) :
 Calls prog 106 #[.string s] w fun e w'=>e=.returned (.tuple #[.string ⟨#[]⟩,Iz 3])∧w=w':=by
 unfold maxLen at a
 go_enter func106,ntmps106
 go_wp2
 go_ret2
 exact ⟨rfl,rfl⟩
theorem NQ (s:Bt) (w:World) (h:s.size≤65536) (b:s.size % 3 ≠ 0) :
 Calls prog 106 #[.string s] w fun e w'=>e=.returned (.tuple #[.string ⟨#[]⟩,Iz 8])∧w=w':=by
 have a:((s.size:Int) % 3 != 0)=true:=by simp only [bne_iff_ne,ne_eq];omega
 clear b
 go_enter func106,ntmps106
 go_wp2
 go_ret2
 exact ⟨rfl,rfl⟩
theorem OL (g T k a:Nat) (n:Nat) (f:Vl) (w:World) (i:f.length=k) (b:Row w g T a f) (d:k+4≤a) (c:a≤maxLen) (h:n<2 ^ 62) :
 Calls prog 123 #[.slice (some ⟨g,0,none⟩) k a,Iz n,Iz 4] w fun e w'=>e=.returned (.slice (some ⟨g,0,none⟩) (k+4) a)∧Row w' g T a (f++aS (kZ n 4))∧w.grownBy w' (some g):=
 TL g T k a n 4 f w i b (by decide) d c h
theorem aMa (x y:Nat) (b:x<256) (a:y<256):bits BinOp.or IntKind.i64 ((x:Int) * 65536) ((y:Int) * 256)=((x * 65536+y * 256:Nat):Int):=by
 rw [bits_join .i64 62 (by decide) DO 16 _ _ (by omega) (by omega) (by omega) (by omega) (by omega) (by omega)]
 simp
theorem or8 (x y:Nat) (c:x<16777216) (a:x % 256=0) (b:y<256):bits BinOp.or IntKind.i64 (x:Int) (y:Int)=((x+y:Nat):Int):=by
 rw [bits_join .i64 62 (by decide) DO 8 _ _ (by omega) (by omega) (by omega) (by omega) (by omega) (by omega)]
 simp
theorem SN (s:Bt) (b:Nat) (w:World) (O:s.size=3 * b) (h:s.size≤65536) :
 Calls prog 106 #[.string s] w fun e w'=>e=.returned (.tuple #[.string (aBg (mF s.data.toList)),Iz 0])∧Below w.heap.size w w':=by
 obtain ⟨i0,hi,G,E,F⟩:=Ea nA;have J:((s.size:Int) % 3 != 0)=false:=by simp only [bne_eq_false_iff_eq];omega
 have I:(s.size:Int) / 3=(b:Int):=by omega
 have X:b≤21845:=by omega
 have D:=Hh O;clear O
 go_enter func106,ntmps106
 go_wp2_with (at_make;refine wpList_make_own _ rfl _ _ 69 rfl w.heap.size 5 i0 (.int .u8 0) 1 underlying69 hi G E .i64 .i64 _ (b * 4) rfl rfl (by omega) (by rw [F];omega) (by unfold maxLen;omega) (Lr _) ?_;intro w1 p f)
 have z:=(Row.of_owns p).1;have B:=(Br w.heap.size w).grown f (Lr _) (fun _ e=>by cases e)
 clear p f
 go_loopw [5,23] (fun v i wr=>∃j:Nat,j≤b∧i=Iz j∧v=.slice (some ⟨w.heap.size,0,none⟩) (4 * j) (b * 4)∧Row wr w.heap.size 5 (b * 4) (aS (mF (s.data.toList.take (3 * j))))∧Below w.heap.size w wr) (fun _ i _=>b - (intOf i).toNat)
 case atStart=>exact ⟨0,Av _,rfl,rfl,by simpa [aS,mF] using z,B⟩
 case round=>
  clear z B;obtain ⟨j,hj,rfl,rfl,C,c⟩:=hrel
  by_cases Z:j<b
  ·have xa:3 * (j+1)≤s.size:=by rw [D.o];omega
   go_wp2_with fail
   obtain ⟨t,d⟩:∃t,t=s.extract (j * 3) ((j+1) * 3):=⟨_,rfl⟩;have W:t.size=3:=by rw [d,pL s _ _ (by omega) (by omega)];omega
   obtain ⟨x0,m⟩:∃x:Nat,x=(s.data.toList.getD (3 * j) 0).toNat:=⟨_,rfl⟩;obtain ⟨x1,k⟩:∃x:Nat,x=(s.data.toList.getD (3 * j+1) 0).toNat:=⟨_,rfl⟩;obtain ⟨x2,l⟩:∃x:Nat,x=(s.data.toList.getD (3 * j+2) 0).toNat:=⟨_,rfl⟩;have g0:∀h,(t[0]'h).toNat=x0:=by rw [d];intro h;rw [yH,m];simp [Nat.mul_comm]
   have g1:∀h,(t[1]'h).toNat=x1:=by rw [d];intro h;rw [yH,k];simp [Nat.mul_comm]
   have g2:∀h,(t[2]'h).toNat=x2:=by rw [d];intro h;rw [yH,l];simp [Nat.mul_comm]
   have T:x0<256:=by rw [m];exact UInt8.toNat_lt _
   have Y:x1<256:=by rw [k];exact UInt8.toNat_lt _
   have R:x2<256:=by rw [l];exact UInt8.toNat_lt _
   have M:OJ s.data.toList j=x0 * 65536+x1 * 256+x2:=by unfold OJ;rw [m,k,l]
   rw [←d];clear d m k l;obtain ⟨y,H⟩:∃y,y=x0 * 65536+x1 * 256:=⟨_,rfl⟩;obtain ⟨N,r⟩:∃N,N=y+x2:=⟨_,rfl⟩;have o1:=aMa x0 x1 T Y;rw [←H] at o1;have S:=or8 y x2 (by omega) (by omega) R
   rw [←r] at S;have K:N<16777216:=by omega
   have Q:Hid (OJ s.data.toList j=N):=by show _=_;rw [M,r,H]
   clear M H r
   go_quiet (fail)
   have n:(aS (mF (s.data.toList.take (3 * j)))).length=4 * j:=by
    rw [kK,iZ j _ (by simp;have:s.data.size=s.size:=rfl;omega)]
   have HL:=Hh n;have a:=FP j s.data.toList (by simp;have:s.data.size=s.size:=rfl;omega)
   rw [Q.o] at a;have U:=Hh a;clear n a
   go_wp2_with (go_at_call 123;refine (OL w.heap.size 5 (4 * j) (b * 4) N _ _ HL.o (C.drewN _) (by omega) (by unfold maxLen;omega) (by omega)).mono ?_;rintro e w2 ⟨rfl,A,u⟩)
   have q:=gI (vX c _) u c.size (Lr _);rw [←cF,←U.o] at A;clear u C c
   go_roundw
   case rel=>exact ⟨j+1,by omega,by go_num,by rw [show 4 * (j+1)=4 * j+4 by omega],A,q⟩
   case measure=>simp [intOf];omega
  ·have:j=b:=by omega
   subst this;have g:s.data.toList.take (3 * j)=s.data.toList:=by
    rw [←D.o];exact iB s
   rw [g] at C;have L:(mF s.data.toList).length=4 * j:=iZ j _ (by simp;exact D.o)
   have V:=BY (P:=prog) wr 69 9 5 w.heap.size 5 (4 * j) (j * 4) (mF s.data.toList) L C underlying69 underlying5 underlying9;clear g L
   go_wp2
   go_ret2
   exact ⟨rfl,c⟩
def aIb (l:Ub):Bt:=if 65536<l.length∨l.length % 3 ≠ 0 then ⟨#[]⟩ else aBg (mF l)
def aIc (l:Ub):Int:=if 65536<l.length then 3 else if l.length % 3 ≠ 0 then 8 else 0
theorem NR (s:Bt) (w:World) (d:s.size≤maxLen) :
 Calls prog 106 #[.string s] w fun e w'=>e=.returned (.tuple #[.string (aIb s.data.toList),Iz (aIc s.data.toList)])∧Below w.heap.size w w':=by
 have f:s.data.toList.length=s.size:=by rw [Ah];rfl
 unfold aIb aIc;rw [f]
 by_cases h:65536<s.size
 ·rw [Am (.inl h),Am h]
  exact (IS s w h d).mono fun e w' ⟨c,b⟩=>⟨c,b ▸ Br _ _⟩
 ·by_cases a:s.size % 3 ≠ 0
  ·rw [Am (.inr a),Ae h,Am a]
   exact (NQ s w (by omega) a).mono fun e w' ⟨c,b⟩=>⟨c,b ▸ Br _ _⟩
  ·rw [Ae (by omega),Ae h,Ae a]
   exact SN s (s.size / 3) w (by omega) (by omega)
theorem aHd (n:Int) (m:Nat) (w:World) (t:1≤m) (u:m<2 ^ 62) (l:-9223372036854775808≤n) (j:n≤9223372036854775807) :
 Calls prog 9 #[Iz n,Iz m] w fun e w'=>e=.returned (Iz (n % (m:Int)))∧w=w':=by
 obtain ⟨r,f⟩:∃r,r=n.tmod (m:Int):=⟨_,rfl⟩;have x:¬ (m:Int)=0:=by omega
 have s:-(m:Int)<r:=by
  rw [f];have v:=Int.lt_tmod_of_pos n (b:=(m:Int)) (by omega)
  omega
 have k:r<(m:Int):=by rw [f];exact Int.tmod_lt_of_pos n (by omega)
 have a:(r+(m:Int)) % (m:Int)=n % (m:Int):=by
  rw [f,Int.add_emod_right,Int.tmod_eq_emod]
  split
  ·simp
  ·rw [Int.sub_emod]
   simp
 have c:r % (m:Int)=n % (m:Int):=by rw [←a];simp
 have d:=Hh c;have h:=Hh a;have g:n.tmod (m:Int)=r:=f.symm;have p:((m:Int) == 0)=false:=by simp;omega
 clear f a c
 by_cases i:0≤n
 ·have q:n % (m:Int)=r:=by rw [←g,Int.tmod_eq_emod,Am (.inl i)];simp
  go_enter func9,ntmps9
  go_wp2
  go_ret
  first | (rw [h.o];exact ⟨rfl,rfl⟩) | (rw [d.o];exact ⟨rfl,rfl⟩)
 ·go_enter func9,ntmps9
  go_wp2
  go_ret
  first | (rw [h.o];exact ⟨rfl,rfl⟩) | (rw [d.o];exact ⟨rfl,rfl⟩)
theorem aKa (s:Bt):s.data.toList.length=s.size:=by rw [Ah];rfl
end Go.Proofs.YtncdpanfefnjlaaGreatDoor
namespace Go.Proofs.YtncdpanfefnjlaaGreatDoor
open Go.Proofs.Tryz
open Go Go.RowKit
def mR (B:Nat) (w:World) (v:Value) (l:List Int):Prop:=
 ∃d c,v=.slice d l.length c∧l.length≤c∧∀j,j<l.length→∃b a,d=some ⟨b,a,none⟩∧b<B∧w.cell? ⟨b,a+j,none⟩=some (Iz (l.getD j 0))
section
variable {B C:Nat} {w w':World} {v:Value}
theorem jA {b o:Nat} (a:w'.heap[b]?=w.heap[b]?):w'.cell? ⟨b,o,none⟩=w.cell? ⟨b,o,none⟩:=by simp only [World.cell?,a]
theorem mR.same {l:List Int} (h:mR B w v l) (d:∀j,j<B→w'.heap[j]?=w.heap[j]?) (p:B≤C):mR C w' v l:=by
 obtain ⟨f,c,i,m,k⟩:=h;refine ⟨f,c,i,m,fun j n=>?_⟩
 obtain ⟨b,a,e,g,o⟩:=k j n;exact ⟨b,a,e,by omega,by rw [jA (d b g)];exact o⟩
theorem mR.below {l:List Int} (h:mR B w v l) (a:Below B w w'):mR B w' v l:=h.same a.block (Lr _)
end
def VE (k n:Int):Prop:=k<1∨4<k∨n<0∨4095<n
instance (k n:Int):Decidable (VE k n):=by unfold VE;infer_instance
end Go.Proofs.YtncdpanfefnjlaaGreatDoor
namespace Go.Proofs.YtncdpanfefnjlaaGreatDoor
open Go.Proofs.Tryz
open Go.ChangeShapes Go.WideShapes Go.ChangeAt Go.RowKit
def xR (c:Int):Int:=lC c.toNat
def EB (c:Int):Int:=wN c.toNat
theorem LR {n:Nat} (h:n=0∨8<n):lC n=0:=by
 unfold lC;split <;> first | omega | rfl
theorem WP {n:Nat} (h:n=0∨8<n):wN n=0:=by
 unfold wN;split <;> first | omega | rfl
theorem tG {c:Int} (h:c<1∨8<c):c.toNat=0∨8<c.toNat:=by omega
end Go.Proofs.YtncdpanfefnjlaaGreatDoor
namespace Go.Proofs.YtncdpanfefnjlaaGreatDoor
open Go.Proofs.Tryz
open Go
section
variable {P:Program} {ops:Array Oper} {md:Region.Mode} {Q:Exit→Act→World→Prop}
def iI (P:Program) (b:Array Oper) (K:Act→Prop):List Oper→Act→Prop
 | [],a=>K a
 | o::rest,a=>∃v,Yields P b o v a∧iI P b K rest (a.put o.dst v)
theorem rN {K:Act→Prop} {a:Act} (h:K a):iI P ops K [] a:=h
theorem oV {K:Act→Prop} {a:Act} {o:Oper} {rest:List Oper} (v:Value) (d:Region.wanted o (yielded ops a.tmps)=true)
 (c:∀w,(execOp a.eval o).run P w=.ok (.value v) w) (h:∀b:Act→Prop,(∀a,iI P ops K rest a→b a)→b (a.put o.dst v)):iI P ops K (o::rest) a:=
 ⟨v,.inl ⟨d,c⟩,h _ fun _ h=>h⟩
end
end Go.Proofs.YtncdpanfefnjlaaGreatDoor
namespace Go.Proofs.YtncdpanfefnjlaaGreatDoor
open Go.Proofs.Tryz
open Go.ChangeShapes Go.WideShapes Go.ChangeAt Go.RowKit
theorem lV {w w':World} {g B:Nat} {u v:Value} (b:Below B w w') (a:g<B) (h:w.cell? ⟨g,0,none⟩=some u∧w.cell? ⟨g,1,none⟩=some v):w'.cell? ⟨g,0,none⟩=some u∧w'.cell? ⟨g,1,none⟩=some v:=
 ⟨by rw [b.cell (p:=⟨g,0,none⟩) a];exact h.1,by rw [b.cell (p:=⟨g,1,none⟩) a];exact h.2⟩
theorem yA (w:World) (u v:Value) (T:TypeId):(w.alloc (.cells #[u,v] T)).cell? ⟨w.heap.size,0,none⟩=some u∧(w.alloc (.cells #[u,v] T)).cell? ⟨w.heap.size,1,none⟩=some v:=by
 constructor <;> simp [go_sem]
theorem RJ (l:Nat) (h:l≤2) (a:Bt):((({ data:=#[0,0] }:Bt).extract 0 l++a).data.toList)=List.replicate l 0++a.data.toList:=by
 obtain rfl | rfl | rfl:l=0∨l=1∨l=2:=by omega
 all_goals (rw [Cp,Dw];rfl)
theorem MO (l:Nat) (a:Bt) (h:l≤4 * ((l+a.size) / 3)) (b:(l+a.size) % 3=0):l≤(mF (List.replicate l 0++a.data.toList)).length:=by
 rw [iZ ((l+a.size) / 3) _ (by rw [Lg,Dy,Ah];show l+a.size=_;omega)]
 exact h
theorem aEx (a b:Ub) (l:Nat):(⟨a.toArray⟩:Bt)++(aBg b).extract l (aBg b).size=⟨(a++b.drop l).toArray⟩:=by
 apply Cr
 apply Cg.1
 rw [Cp,Dw,mE]
 show a++(b.take b.length).drop l=_
 rw [List.take_length]
theorem eJ {w:World} {g:Nat} {u v:Value} {T:TypeId} (h:w.heap[g]?=some (.cells #[u,v] T (0,0))):w.cell? ⟨g,0,none⟩=some u∧w.cell? ⟨g,1,none⟩=some v:=by
 constructor <;> simp [World.cell?,h]
theorem KW {w:World} {g:Nat} {u v:Value} {T:TypeId} (h:w.heap[g]?=some (.cells #[u,v] T (0,0))) (x:Value):(w.setCell ⟨g,0,none⟩ x).heap[g]?=some (.cells #[x,v] T (0,0)):=by
 have a:=Aa h;have b:w.heap[g]=.cells #[u,v] T (0,0):=by simpa [Cd a] using h
 show (w.heap.modify g _)[g]?=_
 rw [Cd (by simpa using a),Array.getElem_modify_self,b]
 rfl
theorem KV {w:World} {g:Nat} {u v:Value} {T:TypeId} (h:w.heap[g]?=some (.cells #[u,v] T (0,0))) (x:Value):(w.setCell ⟨g,1,none⟩ x).heap[g]?=some (.cells #[u,x] T (0,0)):=by
 have a:=Aa h;have b:w.heap[g]=.cells #[u,v] T (0,0):=by simpa [Cd a] using h
 show (w.heap.modify g _)[g]?=_
 rw [Cd (by simpa using a),Array.getElem_modify_self,b]
 rfl
theorem eT {w:World} {g:Nat} {u v:Value} {T:TypeId} (h:w.heap[g]?=some (.cells #[u,v] T (0,0))) (x y:Value):(w.setCell ⟨g,0,none⟩ x).cell? ⟨g,0,none⟩=some x∧((w.setCell ⟨g,0,none⟩ x).setCell ⟨g,1,none⟩ y).cell? ⟨g,1,none⟩=some y:=
 ⟨(eJ (KW h x)).1,(eJ (KV (KW h x) y)).2⟩
theorem dP {w:World} {g:Nat} {u v:Value} {T:TypeId} (h:w.heap[g]?=some (.cells #[u,v] T (0,0))):w.frozen? ⟨g,0,none⟩=false∧w.frozen? ⟨g,1,none⟩=false:=by
 constructor <;> simp [World.frozen?,h]
theorem aBn {a b:Bt} (h:a=b):(a.toList == b.toList)=true:=by rw [h];exact beq_self_eq_true _
theorem XQ {a b:Bt} (h:a ≠ b):(a.toList == b.toList)=false:=by
 rw [Bm];intro e;rw [ByteArray.toList_eq,ByteArray.toList_eq] at e;exact h (bytes_inj e)
def Lay (w:World):Prop:=∀i,i<9→w.cell? ⟨1,i * 2,none⟩=some (.string ⟨(kU i).toArray⟩)∧w.cell? ⟨1,i * 2+1,none⟩=some (Iz (lC i))
theorem Lay.lt {w:World} (h:Lay w):1<w.heap.size:=cD (h 0 (by omega)).1
theorem Lay.below {w w':World} (h:Lay w) {B:Nat} (b:1<B) (a:Below B w w'):Lay w':=fun i c=>
 ⟨(a.cell (p:=⟨1,i * 2,none⟩) b).trans (h i c).1,(a.cell (p:=⟨1,i * 2+1,none⟩) b).trans (h i c).2⟩
theorem Lay.go {w w':World} (h:Lay w) (a:Below w.heap.size w w'):Lay w':=h.below h.lt a
def IE (c:Int):Value:=.tuple #[.agg #[.string ⟨(kU c.toNat).toArray⟩,Iz (xR c)],.bool (decide (1≤c∧c≤8))]
theorem FV {n:Nat} (h:n=0∨8<n):kU n=[]:=by
 unfold kU;split <;> first | omega | rfl
theorem YJ (n:Nat) (w:World) (y:n≤8) (k:Lay w):Calls prog 65 #[Iz (n:Int)] w fun e w'=>e=.returned (IE n)∧Below w.heap.size w w':=by
 obtain ⟨u,c1⟩:=k n (by omega)
 obtain ⟨R,f⟩:∃R,R=IE n:=⟨_,rfl⟩;rw [←f];unfold IE at f;rw [show ((n:Int)).toNat=n from rfl,show xR (n:Int)=(lC n:Int) from rfl] at f
 obtain ⟨g,d⟩:∃g:Bt,g=⟨(kU n).toArray⟩:=⟨_,rfl⟩;obtain ⟨b,i⟩:∃b,b=lC n:=⟨_,rfl⟩;have p:(g.toList == (⟨#[]⟩:Bt).toList) = !decide (1≤(n:Int)∧(n:Int)≤8):=by
  by_cases s:n=0
  ·subst s;rw [show decide (1≤((0:Nat):Int)∧((0:Nat):Int)≤8)=false by decide];exact aBn (by rw [d];rfl)
  ·rw [show decide (1≤(n:Int)∧(n:Int)≤8)=true from Ap (by omega)]
   refine XQ ?_;rw [d];intro e;have:=Ad ByteArray.size e;have q:(kU n).length=0:=this;rcases iA (c:=n) (by omega) (by omega) with rfl | rfl | rfl | rfl | rfl | rfl | rfl | rfl <;> cases q
 rw [←d,←i] at f;rw [←d] at u;rw [←i] at c1;obtain ⟨x,m⟩:∃x,x=decide (1≤(n:Int)∧(n:Int)≤8):=⟨_,rfl⟩;rw [←m] at f p;have t:=Hh f;have r:=k.lt;clear f d i m k
 go_enter func65,ntmps65
 have j:g.toList.isEmpty = !x:=by
  rw [←p];cases h:g.toList with
  | nil=>simp
  | cons a l=>simp
 go_wp2
 go_region
 go_wp2
 refine Au (v:=.tuple #[.agg #[.string g,Iz b],.bool x]) ?_ ?_ ?_;rotate_left
 ·rfl
 ·exact ⟨by rw [t.o],(((Br _ _).alloc (Lr _) _).alloc (by simp) _).drew⟩
 ·simp [results,results65,go_sem,j]
theorem MP (c:Int) (h:c<1∨8<c):IE c=.tuple #[.agg #[.string ⟨#[]⟩,Iz 0],.bool false]:=by
 unfold IE;rw [FV (tG h),show xR c=0 by unfold xR;rw [LR (tG h)];rfl,Ar (by omega)]
theorem rU (c:Int) (w:World) (a:Lay w):Calls prog 65 #[Iz c] w fun e w'=>e=.returned (IE c)∧Below w.heap.size w w':=by
 by_cases h:0≤c∧c≤8
 ·obtain ⟨n,rfl⟩:∃n:Nat,c=(n:Int):=⟨c.toNat,by omega⟩
  exact YJ n w (by omega) a
 ·rw [MP c (by omega)]
  clear a;rcases (show c<0∨9≤c by omega) with b | b
  ·clear h
   go_enter func65,ntmps65
   go_wp2
   refine Au (v:=.tuple #[.agg #[.string ⟨#[]⟩,Iz 0],.bool false]) ?_ ?_ ?_;rotate_left
   ·rfl
   ·exact ⟨rfl,(Br _ _).alloc (Lr _) _⟩
   ·simp [results,results65,go_sem]
  ·have d:¬c<0:=by omega
   clear h
   go_enter func65,ntmps65
   go_wp2
   refine Au (v:=.tuple #[.agg #[.string ⟨#[]⟩,Iz 0],.bool false]) ?_ ?_ ?_;rotate_left
   ·rfl
   ·exact ⟨rfl,(Br _ _).alloc (Lr _) _⟩
   ·simp [results,results65,go_sem]
theorem DN (d:Bt) (b l:Nat) (w:World) (g:b≤1000) (f:(3 - b % 3) % 3=l):Calls prog 97 #[.agg #[.string d,Iz (b:Int)]] w fun e w'=>e=.returned (Iz (l:Int))∧Below w.heap.size w w':=by
 have a:(3 - (b:Int) % 3) % 3=(l:Int):=by omega
 have c:=Hh a;clear f a
 go_enter func97,ntmps97
 go_wp2
 go_ret
 exact ⟨by rw [←c.o];rfl,(Br _ _).alloc (Lr _) _⟩
theorem w64 (n:Int) (h:-9223372036854775808≤n∧n≤9223372036854775807):IntKind.i64.wrap n=n:=by rw [IntKind.wrap_i64];omega
theorem PX (k l b a:Nat) (c:k≤4) (e:l≤2) (d:b≤1000) (h:(k:Int)+((l:Int)+(b:Int)) / 3 * 4 - (l:Int)=(a:Int)) :
 IntKind.i64.wrap (IntKind.i64.wrap ((k:Int)+IntKind.i64.wrap (IntKind.i64.wrap ((IntKind.i64.wrap ((l:Int)+(b:Int))).tdiv 3) * 4)) - (l:Int))=(a:Int):=by
 rw [w64 ((l:Int)+(b:Int)) (by omega),Int.tdiv_eq_ediv_of_nonneg (by omega),w64 (((l:Int)+(b:Int)) / 3) (by omega),w64 (((l:Int)+(b:Int)) / 3 * 4) (by omega),w64 ((k:Int)+((l:Int)+(b:Int)) / 3 * 4) (by omega),w64 _ (by omega)]
 exact h
theorem DM (d:Bt) (b l a:Nat) (w:World) (h:b≤1000) (s:d.size≤4) (p:(3 - b % 3) % 3=l) (u:d.size+(l+b) / 3 * 4=a+l):Calls prog 66 #[.agg #[.string d,Iz (b:Int)]] w fun e w'=>e=.returned (Iz (a:Int))∧Below w.heap.size w w':=by
 have n:=Hh (fun (t:World)=>DN d b l t h p)
 have g:l≤2:=by omega
 have k:(d.size:Int)+((l:Int)+(b:Int)) / 3 * 4 - (l:Int)=(a:Int):=by omega
 have r:=Hh (PX d.size l b a s g h k);have j:=yA w (.string d) (Iz (b:Int)) 99;clear p k u
 go_enter func66,ntmps66
 go_wp2
 have i:w.heap.size<(w.alloc (.cells #[.string d,Iz (b:Int)] 99)).heap.size:=by simp
 go_region_held3 (fun w'=>w'.cell? ⟨w.heap.size,0,none⟩=some (.string d)∧w'.cell? ⟨w.heap.size,1,none⟩=some (Iz (b:Int))) (first | exact j | exact m | exact q)
  (first
   | (go_at_call 97;refine (n.o _).mono ?_;rintro e x ⟨rfl,c⟩;have m:=lV c i j)
   | (go_at_call 97;refine (n.o _).mono ?_;rintro e v ⟨rfl,f⟩;have q:=lV f (Ll i c.size) m))
 rw [r.o]
 go_wp2
 go_ret
 exact ⟨rfl,(((Br _ _).alloc (Lr _) _).drew.trans (c.mono (by simp))).trans (f.mono (by have:=c.size;simp at this;omega))⟩
theorem yO (n:Nat) (w:World) (a:n≤8):Calls prog 66 #[.agg #[.string ⟨(kU n).toArray⟩,Iz (lC n:Int)]] w fun e w'=>e=.returned (Iz (wN n:Int))∧Below w.heap.size w w':=by
 rcases Nat.eq_zero_or_pos n with rfl | h
 ·exact DM _ (lC 0) 0 (wN 0) w (by decide) (by decide) (by decide) (by decide)
 ·refine DM _ (lC n) (mL n) (wN n) w ?_ ?_ rfl (EA n h a)
  ·rcases iA h a with rfl | rfl | rfl | rfl | rfl | rfl | rfl | rfl <;> decide
  ·show (kU n).length≤4
   rcases iA h a with rfl | rfl | rfl | rfl | rfl | rfl | rfl | rfl <;> decide
theorem OU (c:Int) (w:World) (k:Lay w):Calls prog 34 #[Iz c] w fun e w'=>e=.returned (Iz (EB c))∧Below w.heap.size w w':=by
 have C:=Hh (fun (a:World) (f:Lay a)=>rU c a f)
 unfold IE at C;have m:Hid (∀a:World,Calls prog 66 #[.agg #[.string ⟨(kU c.toNat).toArray⟩,Iz (xR c)]] a fun e w'=>e=.returned (Iz (EB c))∧Below a.heap.size a w'):=by
  intro a
  by_cases h:1≤c∧c≤8
  ·obtain ⟨n,rfl⟩:∃n:Nat,c=(n:Int):=⟨c.toNat,by omega⟩
   exact yO n a (by omega)
  ·rw [FV (tG (by omega)),show xR c=0 by unfold xR;rw [LR (tG (by omega))];rfl,show EB c=0 by unfold EB;rw [WP (tG (by omega))];rfl]
   exact yO 0 a (by omega)
 obtain ⟨l,d⟩:∃l:Bt,l=⟨(kU c.toNat).toArray⟩:=⟨_,rfl⟩;obtain ⟨x,f⟩:∃x,x=decide (1≤c∧c≤8):=⟨_,rfl⟩;obtain ⟨r,j⟩:∃r,r=xR c:=⟨_,rfl⟩;obtain ⟨z,g⟩:∃z,z=EB c:=⟨_,rfl⟩;rw [←d,←f,←j] at C;rw [←d,←j,←g] at m;rw [←g];have HL:=Hh k;clear d f k j g
 go_enter func34,ntmps34
 go_wp2_with (first | (go_at_call 65;(with_reducible refine (C.o _ HL.o).mono ?_);rintro e q ⟨rfl,b⟩) | (go_at_call 66;(with_reducible refine (m.o _).mono ?_);rintro e p ⟨rfl,i⟩))
 go_ret
 exact ⟨rfl,(b.alloc b.size _).trans (i.mono (by have:=b.size;simp;omega))⟩
def rB (c:Int) (a:Bt):Bt:=if (1≤c∧c≤8)∧a.size=lC c.toNat then ⟨(zF c.toNat a.data.toList).toArray⟩ else ⟨#[]⟩
def AE (c:Int) (a:Bt):Int:=if 1≤c∧c≤8 then (if a.size=lC c.toNat then 0 else 8) else 7
end Go.Proofs.YtncdpanfefnjlaaGreatDoor
namespace Go.Proofs.YtncdpanfefnjlaaGreatDoor
open Go.Proofs.Tryz
open Go
section
variable {P:Program} {ops:Array Oper} {md:Region.Mode} {Q:Exit→Act→World→Prop}
def zP (md:Region.Mode) (a:Array Oper):List Nat→Array Bool→Bool
 | t::ts,listed=>decide (Region.ready md a listed=[t]) && zP md a ts (listed.setIfInBounds t true)
 | [],listed=>(Region.ready md a listed).isEmpty
def eB (a:Array Oper) (b:List Nat):List Oper:=b.filterMap fun k=>a[k]?
theorem zO:∀ (ts:List Nat) (b:Array Bool) (a:Act) (w:World),zP md ops ts b=true→wpList P ops Q (eB ops ts) a w→wpAny P md ops Q ts.length b a w
 | [],b,a,w,hB,h=>⟨by simpa [zP] using hB,by simpa [eB,wpList] using h⟩
 | t::ts,b,a,w,hB,h=>by
  simp only [zP,An,As] at hB;obtain ⟨e,d⟩:=hB;have c:t ∈ Region.ready md ops b:=by rw [e];simp
  obtain ⟨_,o,g,_⟩:=mem_ready.1 c;refine ⟨fun f=>(by rw [e] at f;cases f),fun i j=>?_⟩
  rw [e] at j;obtain rfl:i=t:=by simpa using j
  have k:wpOp P ops Q i (wpList P ops Q (eB ops ts)) a w:=by
   unfold wpOp;simp only [g];have:eB ops (i::ts)=o::eB ops ts:=by simp [eB,g]
   rw [this] at h;exact h
  exact wpOp_mono (fun m w' l=>zO ts _ m w' d l) k
end
end Go.Proofs.YtncdpanfefnjlaaGreatDoor