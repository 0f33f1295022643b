import Derived.Test.YtncdpanfefnjlaaGreatDoorJmap
import Derived.Test.YtncdpanfefnjlaaGreatDoorPlan
set_option linter.unusedVariables false
set_option linter.unusedSimpArgs false
set_option maxHeartbeats 3200000
set_option maxRecDepth 100000
namespace Go.Proofs.YtncdpanfefnjlaaGreatDoor
open Go.Proofs.Tryz
open Go.ChangeShapes Go.WideShapes Go.ChangeAt Go.RowKit
theorem lT (B g b h:Nat) (n:Nat) (ns:List Bt) (w:World) (p:1≤n) (r:n<2 ^ 62) (z:ns.length=n) (i:∀j s,ns[j]?=some s→w.cell? ⟨b,j,none⟩=some (.string s)) (A:b ≠ g) (y:bG B w g) :
 Calls prog 41 #[.pointer (some ⟨g,0,none⟩),.slice (some ⟨b,0,none⟩) n h] w fun e w'=>(∃s,s ∈ ns∧e=.returned (.string s))∧w.grownBy w' (some g)∧bG B w' g:=by
 have N:=Hh (fun (m:World) (v:bG B m g)=>LZ B g n m p r v)
 go_enter func41,ntmps41
 have t:=Hh i;clear i
 go_wp2_with (go_at_call 19;(with_reducible refine (N.o _ y).mono ?_);rintro e q ⟨⟨k,C,rfl⟩,c,f⟩;go_loud ((have d:k<ns.length:=by omega);(have x:(k:Int)<(n:Int):=by omega);(have u:(0:Int)≤(k:Int):=by omega);(have l:ns[k] ∈ ns:=Du d);(have a:q.cell? ⟨b,k,none⟩=some (.string ns[k]):=c.cell (t.o k _ (Ac d)) (by intro e;have:=Ab e;dsimp only at this;omega));generalize ns[k]=s at a l))
 go_ret
 exact ⟨⟨s,l,rfl⟩,c,f⟩
theorem cT {w:World} {b:Nat} {T:TypeId} {c:Array Value} (a:Vl) (h:w.heap[b]?=some (.cells c T (0,0))) (e:c=a.toArray):∀j v,a[j]?=some v→w.cell? ⟨b,j,none⟩=some v:=by
 intro j v d;subst e;simp [World.cell?,h,d]
theorem mH {w:World} {b:Nat} {T:TypeId} {a:Array Value} (ns:List Bt) (h:w.heap[b]?=some (.cells a T (0,0))) (e:a=(ns.map Value.string).toArray):∀j s,ns[j]?=some s→w.cell? ⟨b,j,none⟩=some (.string s):=
 fun j s c=>cT _ h e j _ (by rw [Be,c];rfl)
def aFo (e:Ending):Prop:=∃s:Bt,aZ s=true∧s.size≤300∧e=.returned (.string s)
def vH:List Bt:=[⟨#[]⟩,⟨#[97]⟩,⟨#[66,111,110,110]⟩,⟨#[97,32,34,113,117,111,116,101,100,34,32,92,32,116,101,120,116]⟩,⟨#[108,105,110,101,10,97,110,100,9,116,97,98,1,31,127]⟩,⟨#[195,164,226,130,172,240,159,152,128]⟩,⟨#[75,69,82,73,49,48,74,83,79,78,48,48,48,48,50,97,95]⟩]
theorem YR:∀s,s ∈ vH→s.size≤20∧Lib.validD s.data.toList=true:=by decide +kernel
def aIy:List Int:=[23,24,31,32,255,256]
theorem aDb:∀j,j<6→∃z:Int,aIy[j]?=some z∧z≤256:=by
 intro j a;obtain rfl | rfl | rfl | rfl | rfl | rfl:j=0∨j=1∨j=2∨j=3∨j=4∨j=5:=by omega
 all_goals exact ⟨_,rfl,by decide⟩
theorem YL (B g:Nat) (w:World) (G:bG B w g) :
 Calls prog 40 #[.pointer (some ⟨g,0,none⟩)] w fun e w'=>aFo e∧w.grownBy w' (some g)∧bG B w' g:=by
 have q:=Hh (fun (l:World) (F:bG B l g)=>jG B g 10 10 rfl l (by decide) (by decide) F)
 have P:=Hh (fun (l:World) (F:bG B l g)=>jG B g 6 6 rfl l (by decide) (by decide) F)
 have Q:=G.lt;obtain ⟨J,a⟩:∃J,J=Obj.cells (vH.map Value.string).toArray 9 (0,0):=⟨_,rfl⟩;have I:=Hh (lT B g w.heap.size 7 7 vH (w.alloc (.cells (vH.map Value.string).toArray 9)) (by decide) (by decide) rfl (mH vH (Hn _ _) rfl) (by omega) (G.go ((Br w.heap.size w).alloc (Lr _) _)))
 have N:=dV w (.cells (vH.map Value.string).toArray 9) (some g);clear G a
 go_enter func40,ntmps40
 go_upto_if 7 with (first
  | (go_at_call 41;refine (I.o).mono ?_;rintro e Y ⟨⟨r,n,rfl⟩,m,i⟩)
  | (go_at_call 19;(with_reducible refine (q.o _ i).mono ?_);rintro e X ⟨⟨k,hk,rfl⟩,c,b⟩))
 all_goals have C:=YR r n
 all_goals have E:=aJ (aJ N m) c
 rotate_left
 ·go_ret
  exact ⟨⟨r,by unfold aZ;rw [C.2,Ap (show r.size≤65536 by omega)];rfl,by omega,rfl⟩,E,b⟩
 ·have H:=Hh E
  have M:=Hh b;clear E b m c i N I q;generalize Value.bool ((k:Int) == 1)=Z
  go_loopw [3] (fun v wr=>∃s:Bt,Lib.validD s.data.toList=true∧s.size≤256∧v=.string s∧w.grownBy wr (some g)∧bG B wr g) (fun v _=>300 - aGt v)
  case atStart=>exact ⟨r,C.2,by omega,rfl,H.o,M.o⟩
  case round=>
   clear H M C n;obtain ⟨s,L,hz,rfl,W,j⟩:=hrel;have K:¬9223372036854775807<s.size+1:=by omega
   have a:(wr.alloc (.cells #[Iz 23,Iz 24,Iz 31,Iz 32,Iz 255,Iz 256] 3)).heap[wr.heap.size]?=some (.cells #[Iz 23,Iz 24,Iz 31,Iz 32,Iz 255,Iz 256] 3 (0,0)):=Hn _ _;have O:=j.lt;have t:=j.go ((Br wr.heap.size wr).alloc (o:=.cells #[Iz 23,Iz 24,Iz 31,Iz 32,Iz 255,Iz 256] 3) (Lr _));have x:=aJ W (dV wr (.cells #[Iz 23,Iz 24,Iz 31,Iz 32,Iz 255,Iz 256] 3) (some g))
   go_upto_if 17 with ((with_reducible refine (P.o _ t).mono ?_);rintro e U ⟨⟨d,D,rfl⟩,f,h⟩;go_loud ((have y:=cP f (by omega) a);(obtain ⟨z,A,R⟩:=aDb d D);(have V:(d:Int)<6:=by omega);(have T:(0:Int)≤(d:Int):=by omega);(have u:U.cell? ⟨wr.heap.size,d,none⟩=some (Iz z):=cT (aIy.map fun z=>Iz z) y rfl d _ (by rw [Be,A];rfl))))
   have p:=aJ x f
   by_cases S:(s.size:Int)<z
   ·go_wp2
    go_roundw
    case rel=>exact ⟨s++{ data:=#[120] },DV L (by decide),by rw [Cq];show s.size+1≤_;omega,rfl,p,h⟩
    case measure=>
     show 300 - (s++{ data:=#[120] }).size<300 - s.size
     rw [Cq]
     show 300 - (s.size+1)<_
     omega
   ·go_wp2
    go_ret
    exact ⟨⟨s,by unfold aZ;rw [L,Ap (show s.size≤65536 by omega)];rfl,by omega,rfl⟩,p,h⟩
end Go.Proofs.YtncdpanfefnjlaaGreatDoor
namespace Go.Proofs.YtncdpanfefnjlaaGreatDoor
open Go.Proofs.Tryz
open Go Go.ChangeShapes Go.WideShapes Go.ChangeAt Go.RowKit
theorem gO {w a b:World} {row:Option Nat} {k:Nat} (h:w.grownBy a row) (c:a.grownBy b (some k)) (g:w.heap.size≤k):w.grownBy b row:=
 ⟨c.os.trans h.os,c.tape.trans h.tape,c.output.trans h.output,Af h.size c.size,fun i d f=>(c.block i (Ll d h.size) (by intro e;have:=Ab e;omega)).trans (h.block i d f)⟩
theorem aL {w:World} {g j:Nat} {a:Array Value} {T:TypeId} {b:Nat × Nat} {u:Value} (h:w.heap[g]?=some (.cells a T b)) (c:a[j]?=some u):w.cell? ⟨g,j,none⟩=some u:=by simp [World.cell?,h,c]
theorem gZ {w:World} {g j:Nat} {a:Array Value} {T:TypeId} (h:w.heap[g]?=some (.cells a T (0,0))):w.frozen? ⟨g,j,none⟩=false:=by simp [World.frozen?,h]
def WFr (TB:TypeId) (g:Nat) (w w':World):Prop:=Below g w w'∧∀ (i:Nat) (o:Obj),i ≠ g→w.heap[i]?=some o→(∀b a,o ≠ .cells b TB a)→w'.heap[i]?=some o
theorem WFr.refl (TB:TypeId) (g:Nat) (w:World):WFr TB g w w:=⟨Br _ _,fun _ _ _ h _=>h⟩
theorem WFr.trans {TB:TypeId} {g:Nat} {a b c:World} (h:WFr TB g a b) (k:WFr TB g b c):WFr TB g a c:=⟨h.1.trans k.1,fun i o e f d=>k.2 i o e (h.2 i o e f d) d⟩
theorem WFr.of_below {TB:TypeId} {g:Nat} {w w':World} (h:Below w.heap.size w w') (b:g≤w.heap.size):WFr TB g w w':=⟨h.mono b,fun i o _ a _=>(h.block i (Aa a)).trans a⟩
def WSt (TW TB:TypeId) (B:Nat) (w:World) (g m:Nat) (l:Ub):Prop:=∃v,w.heap[g]?=some (.cells #[v,.map (some m)] TW (0,0))∧w.ownsRow B TB 1 v l.length (aS l)∧g<B∧m<g
theorem WSt.below {TW TB:TypeId} {B:Nat} {w w':World} {g m:Nat} {l:Ub} (h:WSt TW TB B w g m l) (a:Below w.heap.size w w'):WSt TW TB B w' g m l:=by
 obtain ⟨v,c,f,d,i⟩:=h;exact ⟨v,(a.block g (Aa c)).trans c,f.kept (aK a (Lr _) none) (by cases e:v.ownBlock with | none=>exact .inl rfl | some b=>exact .inr (by simp)),d,i⟩
theorem WSt.lt {TW TB:TypeId} {B:Nat} {w:World} {g m:Nat} {l:Ub} (h:WSt TW TB B w g m l):g<w.heap.size:=by obtain ⟨v,a,_⟩:=h;exact Aa a
theorem WSt.le {TW TB:TypeId} {B:Nat} {w:World} {g m:Nat} {l:Ub} (h:WSt TW TB B w g m l):m<g:=by obtain ⟨v,_,_,_,a⟩:=h;exact a
theorem dM {w:World} {B e n:Nat} {v:Value} {b:Vl} (h:w.ownsRow B e 1 v n b):∃c a,v=.slice c n a∧n≤a∧a≤maxLen:=by
 rcases h.2 with ⟨rfl,rfl⟩ | ⟨g,a,i,rfl,_,_,d,f,_⟩
 ·exact ⟨none,0,rfl,Lr _,Av _⟩
 ·exact ⟨_,a,rfl,d,f⟩
theorem yP {TW TB:TypeId} {B:Nat} {w a:World} {g m:Nat} {l l':Ub} {v c:Value} (p:w.heap[g]?=some (.cells #[v,.map (some m)] TW (0,0))) (q:w.ownsRow B TB 1 v l.length (aS l)) (t:g<B) (z:m<g) (F:TW ≠ TB)
 (d:a.ownsRow B TB 1 c l'.length (aS l')) (f:w.grownBy a v.ownBlock) :
 a.heap[g]?=some (.cells #[v,.map (some m)] TW (0,0))∧WSt TW TB B (a.setCell ⟨g,0,none⟩ c) g m l'∧WFr TB g w (a.setCell ⟨g,0,none⟩ c):=by
 have r:v.ownBlock ≠ some g:=by
  intro e;have:=(q.lt g e).1;omega
 have n:a.heap[g]?=some (.cells #[v,.map (some m)] TW (0,0)):=(f.block g (Aa p) (fun e=>r e.symm)).trans p
 refine ⟨n,⟨c,?_,?_,t,z⟩,?_,?_⟩
 ·have:=dX n (j:=0) c
  simpa using this
 ·refine d.kept (aV a g 0 c) ?_
  cases e:c.ownBlock with
  | none=>exact .inl rfl
  | some b=>exact .inr (fun y=>by cases y;have:=(d.lt _ e).1;omega)
 ·have s:Below g w a:=(Br g w).grown f (Bw (Aa p)) (fun k u=>by have:=(q.lt k u).1;omega)
  exact s.grown (aV a g 0 c) (by have:=Aa n;omega) (fun k u=>by cases u;exact Lr _)
 ·intro i o C h x
  rw [heap_setCell_other a ⟨g,0,none⟩ i c C];refine (f.block i (Aa h) fun e=>?_).trans h
  rcases q.2 with ⟨rfl,-⟩ | ⟨b,E,A,rfl,-,D,-⟩
  ·cases e
  ·have e:i=b:=by simpa [Value.ownBlock] using e
   subst e;rw [D] at h;exact x _ _ (Ab h).symm
def Out (l T l':Ub):Prop:=l'=l++T∨(65536<l'.length∧65536<l.length+T.length)
theorem Out.fits {l T l':Ub} (h:Out l T l') (a:¬65536<l'.length):l'=l++T:=h.resolve_right fun q=>a q.1
theorem Out.over {l T l':Ub} (h:Out l T l') (a:65536<l'.length):65536<l.length+T.length:=by
 rcases h with rfl | h
 ·rwa [Lg] at a
 ·exact h.2
theorem Out.more {l T U l' a:Ub} (h:Out l T l') (b:¬65536<l'.length) (k:Out l' U a):Out l (T++U) a:=by
 have e:=h.fits b;rcases k with rfl | k
 ·exact .inl (by rw [e,Aj])
 ·refine .inr ⟨k.1,?_⟩
  have:=k.2;rw [e,Lg] at this;rw [Lg];omega
theorem Out.push {l T l':Ub} (h:Out l T l') (U:Ub):Out l (T++U) (l'++U):=by
 rcases h with rfl | h
 ·exact .inl (by rw [Aj])
 ·exact .inr ⟨by rw [Lg];omega,by rw [Lg];omega⟩
theorem Out.cut {l T l':Ub} (h:Out l T l') (a:65536<l'.length) {U:Ub} (b:T.length≤U.length):Out l U l':=.inr ⟨a,by have:=h.over a;omega⟩
theorem IL (m:Nat) (h:m<ByteArray.size { data:=#[48,49,50,51,52,53,54,55,56,57,97,98,99,100,101,102] }):({ data:=#[48,49,50,51,52,53,54,55,56,57,97,98,99,100,101,102] }:Bt)[m]'h=lI (UInt8.ofNat m):=by
 have a:∀m:Fin 16,({ data:=#[48,49,50,51,52,53,54,55,56,57,97,98,99,100,101,102] }:Bt)[m.val]'(m.isLt)=lI (UInt8.ofNat m.val):=by decide +kernel
 exact a ⟨m,h⟩
theorem aHa (m:Nat) (h:m<ByteArray.size { data:=#[48,49] }):({ data:=#[48,49] }:Bt)[m]'h=lI (UInt8.ofNat m):=by
 have a:∀m:Fin 2,({ data:=#[48,49] }:Bt)[m.val]'(m.isLt)=lI (UInt8.ofNat m.val):=by decide +kernel
 exact a ⟨m,h⟩
def aKq (TB:TypeId) (w wr:World) (v:Value) (l:Ub):Prop:=wr.ownsRow w.heap.size TB 1 v l.length (aS l)∧Below w.heap.size w wr
theorem mC:∀l:Ub,(l.flatMap eN).length≤6 * l.length
 | []=>Lr _
 | c::r=>by
  have a:(eN c).length≤6:=by
   unfold eN
   repeat' split
   all_goals simp
  have b:=mC r;rw [Cl,Lg,Ag];omega
theorem iD {TB:TypeId} {w g:World} {l:Ub} {j m:Nat} {c:UInt8} {L b:Ub} {v:Value} {a:Vl} (k:L=34::(l.take j).flatMap eN) (n:l[j]?=some c) (o:eN c=b) (f:g.ownsRow w.heap.size TB 1 v (L.length+m) (aS L++a)) (d:a=aS b) (i:m=b.length) (h:Below w.heap.size w g):aKq TB w g v (34::(l.take (j+1)).flatMap eN):=by
 have e:34::(l.take (j+1)).flatMap eN=L++b:=by
  rw [Bf,n,List.flatMap_append,k]
  show _=(34::(l.take j).flatMap eN)++b
  rw [Bo,←o];simp
 refine ⟨?_,h⟩;rw [e,Lg,cF,←i,←d];exact f
theorem wM {x:Nat} {c:UInt8} (h:x=c.toNat):c=UInt8.ofNat x:=by rw [h,Dp]
theorem aJd {x:Nat} {c:UInt8} (h:x=c.toNat) (g:x<32) (b:x ≠ 8) (e:x ≠ 9) (d:x ≠ 10) (f:x ≠ 12) (a:x ≠ 13):eN c=[92,117,48,48,lI (UInt8.ofNat (x / 16)),lI (UInt8.ofNat (x % 16))]:=by
 have:∀n:Fin 32,n.1 ≠ 8→n.1 ≠ 9→n.1 ≠ 10→n.1 ≠ 12→n.1 ≠ 13→eN (UInt8.ofNat n.1)=[92,117,48,48,lI (UInt8.ofNat (n.1 / 16)),lI (UInt8.ofNat (n.1 % 16))]:=by decide +kernel
 rw [wM h];exact this ⟨x,g⟩ b e d f a
theorem aJc {x:Nat} {c:UInt8} (h:x=c.toNat) (g:32≤x) (b:x ≠ 34) (f:x ≠ 92):eN c=[c]:=by
 have a:∀v:UInt8,v.toNat ≠ x→c ≠ v:=fun v d e=>d (by rw [h,e])
 unfold eN;rw [Ae (by rintro (e | e);exact a _ (by simpa using Ne.symm b) e;exact a _ (by simpa using Ne.symm f) e),Ae (a _ (by simp;omega)),Ae (a _ (by simp;omega)),Ae (a _ (by simp;omega)),Ae (a _ (by simp;omega)),Ae (a _ (by simp;omega)),Ae]
 rw [UInt8.lt_iff_toNat_lt,←h];simp;omega
theorem zS (s:Bt) (w:World) (hs:s.size≤1099511627776):Calls prog 100 #[.string s] w fun e w'=>e=.returned (.string ⟨(bE s.data.toList).toArray⟩)∧Below w.heap.size w w':=by
 obtain ⟨D,X,B,r,y⟩:=Ea nA;have A:=underlying69;have xn:=underlying5;have xj:=underlying9;have C:=Hh X;have V:s.data.toList.length=s.size:=by rw [Ah];rfl
 have N:=Hh V;have xo:(s.size:Int)≤1099511627776:=by omega
 have o1:=Ed (base:=w.heap.size) (e:=5) (size:=1) w #[.int .u8 34] 1 (Lr _) (by decide) rfl
 have b1:=(Br w.heap.size w).alloc (o:=.cells #[.int .u8 34] 5) (Lr _);have R0:Hid (aKq 5 w (w.alloc (.cells #[.int .u8 34] 5)) (.slice (some ⟨w.heap.size,0,none⟩) 1 1) [34]):=Hh ⟨o1,b1⟩;clear o1 b1 X V
 go_enter func100,ntmps100
 go_wp2
 go_loopw [3,9] (fun v i wr=>∃j:Nat,i=Iz j∧j≤s.size∧aKq 5 w wr v (34::(s.data.toList.take j).flatMap eN)) (fun _ i _=>s.size - (intOf i).toNat)
 case atStart=>exact ⟨0,rfl,Av _,R0.o⟩
 case round=>
  clear R0;obtain ⟨j,rfl,hj,n⟩:=hrel
  by_cases xk:j<s.size
  ·have Y:(j:Int)<(s.size:Int):=by omega
   have xt:(0:Int)≤(j:Int):=by omega
   obtain ⟨L,I⟩:∃L,L=34::(s.data.toList.take j).flatMap eN:=⟨_,rfl⟩;rw [←I] at n;have xh:L.length≤6 * s.size+1:=by
    rw [I,Ag];have:=mC (s.data.toList.take j);rw [Bc] at this;omega
   have HL:=Hh I;have a:=Hh n;clear I n;have O:s.data.toList[j]?=some s[j]:=by rw [Ac (by have:=N.o;omega)];rfl
   go_upto_region 7 with fail
   generalize s[j]=c at O ⊢;have Q:c.toNat<256:=c.toNat_lt;obtain ⟨x,t⟩:∃x,x=c.toNat:=⟨_,rfl⟩;rw [←t] at Q ⊢;have E:=Hh t;have H:=Hh O;have R:x=34∨x=92∨x=8∨x=9∨x=10∨x=12∨x=13∨(x<32∧x ≠ 8∧x ≠ 9∧x ≠ 10∧x ≠ 12∧x ≠ 13)∨(32≤x∧x ≠ 34∧x ≠ 92):=by omega
   clear t O;rcases R with t | t | t | t | t | t | t | ⟨t,n8,n9,xb,xd,xi⟩ | ⟨t,xa,xe⟩
   ·subst t
    go_wp2_with (refine Ay _ rfl (.tmp 26) (.tmp 28) 69 rfl w.heap.size 5 D (.int .u8 0) 1 1 A C.o B r y rfl (by decide) _ L.length _ rfl (a.o.1.alloc (.cells #[.int .u8 92,.int .u8 34] 5)) ⟨wr.heap.size,0,none⟩ 2 2 [.int .u8 92,.int .u8 34] rfl rfl (cX wr #[.int .u8 92,.int .u8 34] 5 [.int .u8 92,.int .u8 34] rfl) (by intro u l;simp only [Bl,Bn,Dl] at l;rcases l with rfl | rfl <;> rfl) (by decide) (by unfold maxLen;omega) (by omega) (by have:=a.o.2.size;simp;omega) _ rfl ?_;intro M J G f b k m)
    have g:=iG (a.o.2.alloc a.o.2.size (.cells #[.int .u8 92,.int .u8 34] 5)) (a.o.1.alloc (.cells #[.int .u8 92,.int .u8 34] 5)) b (by have:=a.o.2.size;simp;omega)
    have F:=Hh (iD HL.o H.o (show eN c=[92,34] by rw [wM E.o];rfl) f rfl rfl g)
    clear f b k g
    go_wp2
    go_roundw
    case rel=>exact ⟨j+1,by go_num,by omega,F.o⟩
    case measure=>simp [intOf];omega
   ·subst t
    go_wp2_with (refine Ay _ rfl (.tmp 26) (.tmp 28) 69 rfl w.heap.size 5 D (.int .u8 0) 1 1 A C.o B r y rfl (by decide) _ L.length _ rfl (a.o.1.alloc (.cells #[.int .u8 92,.int .u8 92] 5)) ⟨wr.heap.size,0,none⟩ 2 2 [.int .u8 92,.int .u8 92] rfl rfl (cX wr #[.int .u8 92,.int .u8 92] 5 [.int .u8 92,.int .u8 92] rfl) (by intro u l;simp only [Bl,Bn,Dl] at l;rcases l with rfl | rfl <;> rfl) (by decide) (by unfold maxLen;omega) (by omega) (by have:=a.o.2.size;simp;omega) _ rfl ?_;intro M J G f b k m)
    have g:=iG (a.o.2.alloc a.o.2.size (.cells #[.int .u8 92,.int .u8 92] 5)) (a.o.1.alloc (.cells #[.int .u8 92,.int .u8 92] 5)) b (by have:=a.o.2.size;simp;omega)
    have F:=Hh (iD HL.o H.o (show eN c=[92,92] by rw [wM E.o];rfl) f rfl rfl g)
    clear f b k g
    go_wp2
    go_roundw
    case rel=>exact ⟨j+1,by go_num,by omega,F.o⟩
    case measure=>simp [intOf];omega
   ·subst t
    go_wp2_with (refine Ay _ rfl (.tmp 49) (.tmp 53) 69 rfl w.heap.size 5 D (.int .u8 0) 1 1 A C.o B r y rfl (by decide) _ L.length _ rfl (a.o.1.alloc (.cells #[.int .u8 92,.int .u8 98] 5)) ⟨wr.heap.size,0,none⟩ 2 2 [.int .u8 92,.int .u8 98] rfl rfl (cX wr #[.int .u8 92,.int .u8 98] 5 [.int .u8 92,.int .u8 98] rfl) (by intro u l;simp only [Bl,Bn,Dl] at l;rcases l with rfl | rfl <;> rfl) (by decide) (by unfold maxLen;omega) (by omega) (by have:=a.o.2.size;simp;omega) _ rfl ?_;intro M J G f b k m)
    have g:=iG (a.o.2.alloc a.o.2.size (.cells #[.int .u8 92,.int .u8 98] 5)) (a.o.1.alloc (.cells #[.int .u8 92,.int .u8 98] 5)) b (by have:=a.o.2.size;simp;omega)
    have F:=Hh (iD HL.o H.o (show eN c=[92,98] by rw [wM E.o];rfl) f rfl rfl g)
    clear f b k g
    go_wp2
    go_roundw
    case rel=>exact ⟨j+1,by go_num,by omega,F.o⟩
    case measure=>simp [intOf];omega
   ·subst t
    go_wp2_with (refine Ay _ rfl (.tmp 49) (.tmp 53) 69 rfl w.heap.size 5 D (.int .u8 0) 1 1 A C.o B r y rfl (by decide) _ L.length _ rfl (a.o.1.alloc (.cells #[.int .u8 92,.int .u8 116] 5)) ⟨wr.heap.size,0,none⟩ 2 2 [.int .u8 92,.int .u8 116] rfl rfl (cX wr #[.int .u8 92,.int .u8 116] 5 [.int .u8 92,.int .u8 116] rfl) (by intro u l;simp only [Bl,Bn,Dl] at l;rcases l with rfl | rfl <;> rfl) (by decide) (by unfold maxLen;omega) (by omega) (by have:=a.o.2.size;simp;omega) _ rfl ?_;intro M J G f b k m)
    have g:=iG (a.o.2.alloc a.o.2.size (.cells #[.int .u8 92,.int .u8 116] 5)) (a.o.1.alloc (.cells #[.int .u8 92,.int .u8 116] 5)) b (by have:=a.o.2.size;simp;omega)
    have F:=Hh (iD HL.o H.o (show eN c=[92,116] by rw [wM E.o];rfl) f rfl rfl g)
    clear f b k g
    go_wp2
    go_roundw
    case rel=>exact ⟨j+1,by go_num,by omega,F.o⟩
    case measure=>simp [intOf];omega
   ·subst t
    go_wp2_with (refine Ay _ rfl (.tmp 49) (.tmp 53) 69 rfl w.heap.size 5 D (.int .u8 0) 1 1 A C.o B r y rfl (by decide) _ L.length _ rfl (a.o.1.alloc (.cells #[.int .u8 92,.int .u8 110] 5)) ⟨wr.heap.size,0,none⟩ 2 2 [.int .u8 92,.int .u8 110] rfl rfl (cX wr #[.int .u8 92,.int .u8 110] 5 [.int .u8 92,.int .u8 110] rfl) (by intro u l;simp only [Bl,Bn,Dl] at l;rcases l with rfl | rfl <;> rfl) (by decide) (by unfold maxLen;omega) (by omega) (by have:=a.o.2.size;simp;omega) _ rfl ?_;intro M J G f b k m)
    have g:=iG (a.o.2.alloc a.o.2.size (.cells #[.int .u8 92,.int .u8 110] 5)) (a.o.1.alloc (.cells #[.int .u8 92,.int .u8 110] 5)) b (by have:=a.o.2.size;simp;omega)
    have F:=Hh (iD HL.o H.o (show eN c=[92,110] by rw [wM E.o];rfl) f rfl rfl g)
    clear f b k g
    go_wp2
    go_roundw
    case rel=>exact ⟨j+1,by go_num,by omega,F.o⟩
    case measure=>simp [intOf];omega
   ·subst t
    go_wp2_with (refine Ay _ rfl (.tmp 49) (.tmp 53) 69 rfl w.heap.size 5 D (.int .u8 0) 1 1 A C.o B r y rfl (by decide) _ L.length _ rfl (a.o.1.alloc (.cells #[.int .u8 92,.int .u8 102] 5)) ⟨wr.heap.size,0,none⟩ 2 2 [.int .u8 92,.int .u8 102] rfl rfl (cX wr #[.int .u8 92,.int .u8 102] 5 [.int .u8 92,.int .u8 102] rfl) (by intro u l;simp only [Bl,Bn,Dl] at l;rcases l with rfl | rfl <;> rfl) (by decide) (by unfold maxLen;omega) (by omega) (by have:=a.o.2.size;simp;omega) _ rfl ?_;intro M J G f b k m)
    have g:=iG (a.o.2.alloc a.o.2.size (.cells #[.int .u8 92,.int .u8 102] 5)) (a.o.1.alloc (.cells #[.int .u8 92,.int .u8 102] 5)) b (by have:=a.o.2.size;simp;omega)
    have F:=Hh (iD HL.o H.o (show eN c=[92,102] by rw [wM E.o];rfl) f rfl rfl g)
    clear f b k g
    go_wp2
    go_roundw
    case rel=>exact ⟨j+1,by go_num,by omega,F.o⟩
    case measure=>simp [intOf];omega
   ·subst t
    go_wp2_with (refine Ay _ rfl (.tmp 49) (.tmp 53) 69 rfl w.heap.size 5 D (.int .u8 0) 1 1 A C.o B r y rfl (by decide) _ L.length _ rfl (a.o.1.alloc (.cells #[.int .u8 92,.int .u8 114] 5)) ⟨wr.heap.size,0,none⟩ 2 2 [.int .u8 92,.int .u8 114] rfl rfl (cX wr #[.int .u8 92,.int .u8 114] 5 [.int .u8 92,.int .u8 114] rfl) (by intro u l;simp only [Bl,Bn,Dl] at l;rcases l with rfl | rfl <;> rfl) (by decide) (by unfold maxLen;omega) (by omega) (by have:=a.o.2.size;simp;omega) _ rfl ?_;intro M J G f b k m)
    have g:=iG (a.o.2.alloc a.o.2.size (.cells #[.int .u8 92,.int .u8 114] 5)) (a.o.1.alloc (.cells #[.int .u8 92,.int .u8 114] 5)) b (by have:=a.o.2.size;simp;omega)
    have F:=Hh (iD HL.o H.o (show eN c=[92,114] by rw [wM E.o];rfl) f rfl rfl g)
    clear f b k g
    go_wp2
    go_roundw
    case rel=>exact ⟨j+1,by go_num,by omega,F.o⟩
    case measure=>simp [intOf];omega
   ·have e1:((x:Int) == 34)=false:=Bm.2 (by omega)
    have e2:((x:Int) == 92)=false:=Bm.2 (by omega)
    have e3:((x:Int) == 8)=false:=Bm.2 (by omega)
    have e4:((x:Int) == 9)=false:=Bm.2 (by omega)
    have e5:((x:Int) == 10)=false:=Bm.2 (by omega)
    have e6:((x:Int) == 12)=false:=Bm.2 (by omega)
    have e7:((x:Int) == 13)=false:=Bm.2 (by omega)
    have e8:(x:Int)<32:=by omega
    obtain ⟨p,hp⟩:∃p,p=x / 16:=⟨_,rfl⟩;obtain ⟨q,hq⟩:∃q,q=x % 16:=⟨_,rfl⟩;have w1:IntKind.u8.wrap ((x:Int) / 16)=(p:Int):=by rw [Da];omega
    have w2:(x:Int).tmod 16=(q:Int):=by rw [Int.tmod_eq_emod_of_nonneg (by omega)];omega
    have xp:(p:Int)<2:=by omega
    have xr:(0:Int)≤(p:Int):=by omega
    have xl:(q:Int)<16:=by omega
    have xm:(0:Int)≤(q:Int):=by omega
    have xg:p<2:=by omega
    have xc:q<16:=by omega
    have g1:=aHa p xg;have g2:=IL q xc;obtain ⟨u,l⟩:∃u,u=lI (UInt8.ofNat p):=⟨_,rfl⟩;obtain ⟨v,hv⟩:∃v,v=lI (UInt8.ofNat q):=⟨_,rfl⟩;rw [←l] at g1;rw [←hv] at g2;have HE:=Hh (show eN c=[92,117,48,48,u,v] by rw [l,hv,hp,hq];exact aJd E.o t n8 n9 xb xd xi)
    clear l hv hp hq
    go_upto_region 12 with fail
    refine aI (fun _=>True) [] (.take 0 (.take 1 (.take 2 (.take 3 (.take 4 (.take 5 (.take 6 (.ask 7 false (.ask 8 false (.ask 9 false .stop .stop) .stop) .stop)))))))) (by kernel_rfl) (by kernel_rfl) (fun _ d _ _ _ h=>by cases d <;> exact h) trivial ?_
    iterate 7 (refine aF _ ?_ rfl rfl ?_ (fun K hK=>?_);rotate_left;(intro w0;go_simp;(try rfl));(go_simp;refine hK _ ?_;clear hK K))
    have bd:Below w.heap.size w wr.drew:=a.o.2.drew;have od:wr.drew.ownsRow w.heap.size 5 1 _ L.length (aS L):=a.o.1;generalize wr.drew=Z at bd od ⊢;have T:=Hh (od.alloc (.cells #[.int .u8 92,.int .u8 117,.int .u8 48,.int .u8 48,.int .u8 (u.toNat:Int),.int .u8 (v.toNat:Int)] 5));have S:=Hh (bd.alloc bd.size (.cells #[.int .u8 92,.int .u8 117,.int .u8 48,.int .u8 48,.int .u8 (u.toNat:Int),.int .u8 (v.toNat:Int)] 5));have CN:=Hh (cX Z #[.int .u8 92,.int .u8 117,.int .u8 48,.int .u8 48,.int .u8 (u.toNat:Int),.int .u8 (v.toNat:Int)] 5 [.int .u8 92,.int .u8 117,.int .u8 48,.int .u8 48,.int .u8 (u.toNat:Int),.int .u8 (v.toNat:Int)] rfl);have U:w.heap.size≤(Z.alloc (.cells #[.int .u8 92,.int .u8 117,.int .u8 48,.int .u8 48,.int .u8 (u.toNat:Int),.int .u8 (v.toNat:Int)] 5)).heap.size:=S.o.size;clear od;refine aB _ rfl trivial ?_
    go_wp2_with fail
    generalize xs:Z.alloc (.cells #[.int .u8 92,.int .u8 117,.int .u8 48,.int .u8 48,.int .u8 (u.toNat:Int),.int .u8 (v.toNat:Int)] 5)=wa at T S CN U ⊢;refine Seg.mk ?_;refine aB _ rfl trivial ?_
    go_wp2_with (refine Ay _ rfl (.tmp 58) (.tmp 65) 69 rfl w.heap.size 5 D (.int .u8 0) 1 1 A C.o B r y rfl (by decide) _ L.length _ rfl T.o ⟨Z.heap.size,0,none⟩ 6 6 [.int .u8 92,.int .u8 117,.int .u8 48,.int .u8 48,.int .u8 (u.toNat:Int),.int .u8 (v.toNat:Int)] rfl rfl CN.o (by intro z hz;simp only [Bl,Bn,Dl] at hz;rcases hz with rfl | rfl | rfl | rfl | rfl | rfl <;> rfl) (by decide) (by unfold maxLen;omega) (by omega) U _ rfl ?_;intro M J G f b k m)
    have g:=iG S.o T.o b U;have F:=Hh (iD HL.o H.o HE.o f rfl rfl g);clear f b k g;refine Seg.mk ?_;refine bQ _ rfl trivial ?_
    go_wp2
    go_roundw
    case rel=>exact ⟨j+1,by go_num,by omega,F.o⟩
    case measure=>simp [intOf];omega
   ·have e1:¬ (x:Int)=34:=by omega
    have e2:((x:Int) == 92)=false:=Bm.2 (by omega)
    have e3:((x:Int) == 8)=false:=Bm.2 (by omega)
    have e4:((x:Int) == 9)=false:=Bm.2 (by omega)
    have e5:((x:Int) == 10)=false:=Bm.2 (by omega)
    have e6:((x:Int) == 12)=false:=Bm.2 (by omega)
    have e7:((x:Int) == 13)=false:=Bm.2 (by omega)
    have e8:¬ (x:Int)<32:=by omega
    go_wp2_with (refine Ay _ rfl (.tmp 15) (.tmp 17) 69 rfl w.heap.size 5 D (.int .u8 0) 1 1 A C.o B r y rfl (by decide) _ L.length _ rfl (a.o.1.alloc (.cells #[.int .u8 (x:Int)] 5)) ⟨wr.heap.size,0,none⟩ 1 1 [.int .u8 (x:Int)] rfl rfl (cX wr #[.int .u8 (x:Int)] 5 [.int .u8 (x:Int)] rfl) (by intro u l;simp only [Bl,Bn,Dl] at l;rcases l with rfl <;> rfl) (by decide) (by unfold maxLen;omega) (by omega) (by have:=a.o.2.size;simp;omega) _ rfl ?_;intro M J G f b k m)
    have g:=iG (a.o.2.alloc a.o.2.size (.cells #[.int .u8 (x:Int)] 5)) (a.o.1.alloc (.cells #[.int .u8 (x:Int)] 5)) b (by have:=a.o.2.size;simp;omega)
    have F:=Hh (iD HL.o H.o (aJc E.o t xa xe) f (by rw [E.o];rfl) rfl g)
    clear f b k g
    go_wp2
    go_roundw
    case rel=>exact ⟨j+1,by go_num,by omega,F.o⟩
    case measure=>simp [intOf];omega
  ·have Y:¬ (j:Int)<(s.size:Int):=by omega
   have W:j=s.size:=by omega
   rw [W,Ak (by rw [N.o];exact Lr _)] at n
   obtain ⟨L,I⟩:∃L,L=34::s.data.toList.flatMap eN:=⟨_,rfl⟩;rw [←I] at n;have xh:L.length≤6 * s.size+1:=by
    rw [I,Ag];have:=mC s.data.toList;have:=N.o;omega
   have HL:=Hh I;have a:=Hh n;clear I n W hj
   go_wp2_with (refine Ay _ rfl (.tmp 68) (.tmp 69) 69 rfl w.heap.size 5 D (.int .u8 0) 1 1 A C.o B r y rfl (by decide) _ L.length _ rfl (a.o.1.alloc (.cells #[.int .u8 34] 5)) ⟨wr.heap.size,0,none⟩ 1 1 [.int .u8 34] rfl rfl (cX wr #[.int .u8 34] 5 [.int .u8 34] rfl) (by intro u l;simp only [Bl,Bn,Dl] at l;rcases l with rfl <;> rfl) (by decide) (by unfold maxLen;omega) (by omega) (by have:=a.o.2.size;simp;omega) _ rfl ?_;intro M J G f b k m;(have xq:=eA (P:=prog) G 69 9 5 w.heap.size (L.length+1) _ (L++[34]) (by have:=f;rw [show aS L++[.int .u8 34]=aS (L++[34]) by rw [cF];rfl] at this;exact this) underlying69 underlying5 underlying9))
   have g:=iG (a.o.2.alloc a.o.2.size (.cells #[.int .u8 34] 5)) (a.o.1.alloc (.cells #[.int .u8 34] 5)) b (by have:=a.o.2.size;simp;omega)
   have xf:=Hh g;clear f b k g
   go_wp2
   go_ret
   refine ⟨?_,xf.o⟩;rw [HL.o];rfl
def foC (j:Nat):Vl:=if j=0 then [Iz 1,.func (.func 126) #[] #[],.func (.func 127) #[] #[],.func (.func 128) #[] #[]] else if j=1 then [Iz 2,.func (.func 129) #[] #[],.func (.func 130) #[] #[],.func (.func 131) #[] #[]] else [Iz 3,.func (.func 132) #[] #[],.func (.func 133) #[] #[],.func (.func 134) #[] #[]]
def aJb:Vl:=foC 0++foC 1++foC 2
theorem LJ (w:World):Calls prog 113 #[] w fun e w'=>e=.returned (.slice (some ⟨w.heap.size,0,none⟩) 3 3)∧w'=w.alloc (.cells aJb.toArray 119):=by
 go_enter func113,ntmps113
 go_wp2
 go_ret
 exact ⟨rfl,rfl⟩
def OP (w:World) (g:Nat):Prop:=w.heap[g]?=some (.cells aJb.toArray 119 (0,0))
theorem OP.at {w:World} {g:Nat} (h:OP w g) (j q:Nat) (b:j<3) (c:q<4):w.cell? ⟨g,j * 4+q,none⟩=(foC j)[q]?:=by
 obtain ⟨u,a⟩:∃u,(foC j)[q]?=some u:=by
  rcases (by omega:j=0∨j=1∨j=2) with rfl | rfl | rfl <;> rcases (by omega:q=0∨q=1∨q=2∨q=3) with rfl | rfl | rfl | rfl <;> exact ⟨_,rfl⟩
 rw [a];refine aL h ?_;rw [←a];rcases (by omega:j=0∨j=1∨j=2) with rfl | rfl | rfl <;> rcases (by omega:q=0∨q=1∨q=2∨q=3) with rfl | rfl | rfl | rfl <;> rfl
theorem aDx (k a:Int) (f d g:Nat) (b:Nat) (w:World) (l:w.cell? ⟨b,0,none⟩=some (Iz a)) (i:b<w.heap.size):Calls prog 115 #[.agg #[Iz k,.func (.func f) #[] #[],.func (.func d) #[] #[],.func (.func g) #[] #[]],.pointer (some ⟨b,0,none⟩)] w fun e w'=>e=.returned (.bool (k == a))∧Below w.heap.size w w':=by
 have c:=(Br w.heap.size w).alloc (o:=.cells #[Iz k,.func (.func f) #[] #[],.func (.func d) #[] #[],.func (.func g) #[] #[]] 119) (Lr _);have h:=Hn w (.cells #[Iz k,.func (.func f) #[] #[],.func (.func d) #[] #[],.func (.func g) #[] #[]] 119);have c1:=(c.cell (p:=⟨b,0,none⟩) i).trans l
 go_enter func115,ntmps115
 go_upto_region 1 with fail
 generalize w.alloc _=m at c h c1 ⊢;have n:=aL h (j:=0) rfl
 go_wp2
 go_ret
 exact ⟨rfl,c⟩
def foI (k:Int):Int:=if k=1 then 0 else if k=2 then 1 else if k=3 then 2 else -1
theorem aDw (a:Int) (g b:Nat) (w:World) (h:OP w g) (z:w.cell? ⟨b,0,none⟩=some (Iz a)) (F:b<w.heap.size):Calls prog 114 #[.slice (some ⟨g,0,none⟩) 3 3,.func (.func 115) #[] #[.pointer (some ⟨b,0,none⟩)]] w fun e w'=>e=.returned (Iz (foI a))∧Below w.heap.size w w':=by
 have x:=Hh (fun (k:Int) (I J K:Nat) (B:World) (G:Below w.heap.size w B)=>aDx k a I J K b B ((G.cell (p:=⟨b,0,none⟩) F).trans z) (Ll F G.size))
 have H:=Hh h;have v:=Aa h;clear h z
 go_enter func114,ntmps114
 go_upto_region 2 with fail
 go_loopw [8] (fun i wr=>∃j:Nat,j≤3∧i=Iz (j:Int)∧(∀i:Nat,i<j→a ≠ (i:Int)+1)∧Below w.heap.size w wr) (fun i _=>3 - (intOf i).toNat)
 case atStart=>exact ⟨0,by omega,rfl,(fun i u=>absurd u (Nat.not_lt_zero _)),Br _ _⟩
 case round=>
  obtain ⟨j,O,rfl,r,q⟩:=hrel;have m:=Hh r;have c:=Hh q;have f:OP wr g:=(q.block g v).trans H.o;clear r q;rcases (by omega:j=0∨j=1∨j=2∨j=3) with rfl | rfl | rfl | rfl
  rotate_right
  ·go_wp2
   go_ret
   refine ⟨?_,c.o⟩;have N:=m.o 0 (by omega)
   have L:=m.o 1 (by omega)
   have M:=m.o 2 (by omega)
   unfold foI;rw [Ae (by omega),Ae (by omega),Ae (by omega)]
   rfl
  ·have D:wr.cell? ⟨g,0,none⟩=some (Iz 1):=f.at 0 0 (by decide) (by decide)
   have y:wr.cell? ⟨g,1,none⟩=some (.func (.func 126) #[] #[]):=f.at 0 1 (by decide) (by decide)
   have C:wr.cell? ⟨g,2,none⟩=some (.func (.func 127) #[] #[]):=f.at 0 2 (by decide) (by decide)
   have A:wr.cell? ⟨g,3,none⟩=some (.func (.func 128) #[] #[]):=f.at 0 3 (by decide) (by decide)
   have E:=Hh (x.o 1 126 127 128 wr c.o);cases hq:((1:Int) == a) with
   | true=>
    rw [hq] at E;have s:Hid (foI a=0):=Hh (by rw [←eq_of_beq hq];rfl)
    clear hq f
    go_wp2_with (go_at_call 115;(with_reducible refine (E.o).mono ?_);rintro e t ⟨rfl,d⟩)
    go_ret
    exact ⟨by rw [s.o];rfl,c.o.trans (d.mono c.o.size)⟩
   | false=>
    rw [hq] at E;have l:a ≠ 1:=fun h=>by rw [h] at hq;cases hq
    have n:=Hh l;clear hq f l
    go_wp2_with (go_at_call 115;(with_reducible refine (E.o).mono ?_);rintro e t ⟨rfl,d⟩)
    go_roundw
    case rel=>exact ⟨1,by omega,by go_num,fun i u=>by
     rcases (by omega:i<0∨i=0) with h | h
     ·exact m.o i h
     ·subst h;exact n.o,c.o.trans (d.mono c.o.size)⟩
    case measure=>simp [intOf]
  ·have D:wr.cell? ⟨g,4,none⟩=some (Iz 2):=f.at 1 0 (by decide) (by decide)
   have y:wr.cell? ⟨g,5,none⟩=some (.func (.func 129) #[] #[]):=f.at 1 1 (by decide) (by decide)
   have C:wr.cell? ⟨g,6,none⟩=some (.func (.func 130) #[] #[]):=f.at 1 2 (by decide) (by decide)
   have A:wr.cell? ⟨g,7,none⟩=some (.func (.func 131) #[] #[]):=f.at 1 3 (by decide) (by decide)
   have E:=Hh (x.o 2 129 130 131 wr c.o);cases hq:((2:Int) == a) with
   | true=>
    rw [hq] at E;have s:Hid (foI a=1):=Hh (by rw [←eq_of_beq hq];rfl)
    clear hq f
    go_wp2_with (go_at_call 115;(with_reducible refine (E.o).mono ?_);rintro e t ⟨rfl,d⟩)
    go_ret
    exact ⟨by rw [s.o];rfl,c.o.trans (d.mono c.o.size)⟩
   | false=>
    rw [hq] at E;have l:a ≠ 2:=fun h=>by rw [h] at hq;cases hq
    have n:=Hh l;clear hq f l
    go_wp2_with (go_at_call 115;(with_reducible refine (E.o).mono ?_);rintro e t ⟨rfl,d⟩)
    go_roundw
    case rel=>exact ⟨2,by omega,by go_num,fun i u=>by
     rcases (by omega:i<1∨i=1) with h | h
     ·exact m.o i h
     ·subst h;exact n.o,c.o.trans (d.mono c.o.size)⟩
    case measure=>simp [intOf]
  ·have D:wr.cell? ⟨g,8,none⟩=some (Iz 3):=f.at 2 0 (by decide) (by decide)
   have y:wr.cell? ⟨g,9,none⟩=some (.func (.func 132) #[] #[]):=f.at 2 1 (by decide) (by decide)
   have C:wr.cell? ⟨g,10,none⟩=some (.func (.func 133) #[] #[]):=f.at 2 2 (by decide) (by decide)
   have A:wr.cell? ⟨g,11,none⟩=some (.func (.func 134) #[] #[]):=f.at 2 3 (by decide) (by decide)
   have E:=Hh (x.o 3 132 133 134 wr c.o);cases hq:((3:Int) == a) with
   | true=>
    rw [hq] at E;have s:Hid (foI a=2):=Hh (by rw [←eq_of_beq hq];rfl)
    clear hq f
    go_wp2_with (go_at_call 115;(with_reducible refine (E.o).mono ?_);rintro e t ⟨rfl,d⟩)
    go_ret
    exact ⟨by rw [s.o];rfl,c.o.trans (d.mono c.o.size)⟩
   | false=>
    rw [hq] at E;have l:a ≠ 3:=fun h=>by rw [h] at hq;cases hq
    have n:=Hh l;clear hq f l
    go_wp2_with (go_at_call 115;(with_reducible refine (E.o).mono ?_);rintro e t ⟨rfl,d⟩)
    go_roundw
    case rel=>exact ⟨3,by omega,by go_num,fun i u=>by
     rcases (by omega:i<2∨i=2) with h | h
     ·exact m.o i h
     ·subst h;exact n.o,c.o.trans (d.mono c.o.size)⟩
    case measure=>simp [intOf]
theorem ZK (k:Int):(k=1∧foI k=0)∨(k=2∧foI k=1)∨(k=3∧foI k=2)∨((k<1∨3<k)∧foI k=-1):=by
 unfold foI
 by_cases a:k=1
 ·exact .inl ⟨a,by rw [Am a]⟩
 by_cases b:k=2
 ·exact .inr (.inl ⟨b,by rw [Ae a,Am b]⟩)
 by_cases c:k=3
 ·exact .inr (.inr (.inl ⟨c,by rw [Ae a,Ae b,Am c]⟩))
 exact .inr (.inr (.inr ⟨by omega,by rw [Ae a,Ae b,Ae c]⟩))
def foR (k:Int):Vl:=if k=1 then foC 0 else if k=2 then foC 1 else if k=3 then foC 2 else [Iz 0,.nilFunc,.nilFunc,.nilFunc]
end Go.Proofs.YtncdpanfefnjlaaGreatDoor