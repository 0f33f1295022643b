import Derived.Test.YtncdpanfefnjlaaGreatDoorMfc
set_option linter.unusedVariables false
set_option linter.unusedSimpArgs false
set_option maxHeartbeats 3200000
set_option maxRecDepth 100000
namespace Go.Proofs.YtncdpanfefnjlaaGreatDoor
open Go.Proofs.Tryz
open Go Go.ChangeShapes Go.WideShapes Go.ChangeAt Go.RowKit
def oC (p:Prop) (w:World) (e:Ending) (w':World):Prop:=∃b:Bool,e=.returned (.bool b)∧(b=true↔p)∧Below w.heap.size w w'
theorem bH.get {S:Nat→Prop} {w:World} {d:Option Addr} {l c:Nat} {ns:List Bt} (h:bH S w (.slice d l c) ns) {j:Nat} {s:Bt} (m:ns[j]?=some s):∃b a,d=some ⟨b,a,none⟩∧S b∧w.cell? ⟨b,a+j,none⟩=some (.string s):=by
 obtain ⟨g,f,e,o,p,k⟩:=h;cases e;obtain ⟨b,a,e,i,n,_⟩:=k j s m;exact ⟨b,a,e,i,n⟩
theorem nH {a b:Bt} (h:a=b):(a.toList == b.toList)=true:=by rw [h];exact beq_self_eq_true _
theorem jE {a b:Bt} (h:a ≠ b):(a.toList == b.toList)=false:=by
 rw [Bm];intro e;rw [ByteArray.toList_eq,ByteArray.toList_eq] at e;exact h (Cr (Cg.1 e))
theorem SL {S N:Nat→Prop} (v P:Value) (ns f:List Bt) (w:World) (h:bH S w v ns) (B:bH N w P f) (K:∀b,S b→b<w.heap.size) (q:∀b,N b→b<w.heap.size):Calls prog 88 #[v,P] w (oC (ns=f) w):=by
 obtain ⟨a1,c1,R,p1,Z,-⟩:=id h;obtain ⟨a2,c2,Y,q1,X,-⟩:=id B;subst R;subst Y;unfold maxLen at Z X;have H:=Hh h;have W:=Hh B;have U:=Hh K;have u:=Hh q;clear h B K q
 by_cases a:ns.length=f.length
 ·have l:((ns.length:Int) != (f.length:Int))=false:=by simp [a]
  have g:=Hh a;clear a
  go_enter func88,ntmps88
  go_wp2
  go_loopw [5,13] (fun i5 i wr=>∃j:Nat,i=Iz j∧j≤ns.length∧ns.take j=f.take j∧Below w.heap.size w wr) (fun _ i _=>ns.length - (intOf i).toNat)
  case atStart=>exact ⟨0,rfl,Av _,by simp,Br _ _⟩
  case round=>
   obtain ⟨j,rfl,hj,d,m⟩:=hrel
   by_cases z:j<ns.length
   ·have n:(j:Int)<(ns.length:Int):=by omega
    have V:(0:Int)≤(j:Int):=by omega
    have C:(j:Int)<(f.length:Int):=by have:=g.o;omega
    obtain ⟨s,A⟩:∃s,ns[j]?=some s:=⟨_,Ac z⟩;obtain ⟨t,y⟩:∃t,f[j]?=some t:=⟨_,Ac (show j<f.length by omega)⟩
    obtain ⟨O,o1,rfl,x,J⟩:=H.o.get A;obtain ⟨I,T,rfl,E,L⟩:=W.out.get y;have r1:=(m.cell (p:=⟨O,o1+j,none⟩) (U.o O x)).trans J;have r2:=(m.cell (p:=⟨I,T+j,none⟩) (u.out I E)).trans L;have r:=Hh d;have Q:=Hh A;have M:=Hh y;clear J L A y d
    by_cases c:s=t
    ·have D:(s.toList == t.toList)=true:=nH c
     have F:(s.toList != t.toList)=false:=by simp [bne,D]
     have k:=Hh c;clear c
     go_wp2
     go_quiet (fail)
     go_wp2
     go_roundw
     case rel=>exact ⟨j+1,by go_num,by omega,by rw [Bf,Bf,Q.o,M.o,r.o,k.o],vX m _⟩
     case measure=>simp [intOf];omega
    ·have D:(s.toList == t.toList)=false:=jE c
     have F:(s.toList != t.toList)=true:=by simp [bne,D]
     have k:=Hh c;clear c
     go_wp2
     go_quiet (fail)
     go_wp2
     go_ret
     refine ⟨false,rfl,⟨fun e=>(by cases e),fun e=>?_⟩,vX m _⟩
     have G:=Q.o;rw [e,M.o] at G;exact absurd (Ab G).symm k.o
   ·have n:¬ (j:Int)<(ns.length:Int):=by omega
    have r:=Hh d;clear d
    go_wp2
    go_ret
    refine ⟨true,rfl,⟨fun _=>?_,fun _=>rfl⟩,m⟩
    have:=r.o;have hl:=g.o
    rwa [Ak (by omega),Ak (by omega)] at this
 ·have l:((ns.length:Int) != (f.length:Int))=true:=by simp;omega
  have HL:=Hh a;clear a
  go_enter func88,ntmps88
  go_wp2
  go_ret
  exact ⟨false,rfl,⟨fun e=>(by cases e),fun e=>absurd (by rw [e]) HL.o⟩,Br _ _⟩
def JH (d:Nat):Prop:=∀ (f:Nat) (S c:Nat→Prop) (e a:Vl) (x y:ND) (w:World),aD d S w e x→aD f c w a y→(∀b,S b→b<w.heap.size)→(∀b,c b→b<w.heap.size)→Calls prog 54 #[.agg e.toArray,.agg a.toArray] w (oC (x=y) w)
theorem NP {d d':Nat} (HV:JH d) {S O:Nat→Prop} (v v':Value) (ns t:List ND) (w:World) (h:cE (aD d S w) S w v ns) (U:cE (aD d' O w) O w v' t) (hS:∀b,S b→b<w.heap.size) (G:∀b,O b→b<w.heap.size) :
 Calls prog 89 #[v,v',.func (.func 54) #[] #[]] w (oC (ns=t) w):=by
 obtain ⟨a1,c1,e1,p1,p2,-⟩:=id h;obtain ⟨a2,c2,e2,W,N,-⟩:=id U;subst e1;subst e2;unfold maxLen at p2 N;have H:=Hh h;have H':=Hh U;have P:=Hh hS;have D:=Hh G;have X:=Hh HV;clear h U hS G HV
 by_cases f:ns.length=t.length
 ·have C:((ns.length:Int) != (t.length:Int))=false:=by simp [f]
  have s:=Hh f;clear f
  go_enter func89,ntmps89
  go_wp2
  go_loopw [7,8,9,17] (fun i7 i8 i9 i wr=>∃j:Nat,i=Iz j∧j≤ns.length∧ns.take j=t.take j∧Below w.heap.size w wr) (fun _ _ _ i _=>ns.length - (intOf i).toNat)
  case atStart=>exact ⟨0,rfl,Av _,by simp,Br _ _⟩
  case round=>
   obtain ⟨j,rfl,hj,r,m⟩:=hrel
   by_cases Q:j<ns.length
   ·have M:(j:Int)<(ns.length:Int):=by omega
    have xa:(0:Int)≤(j:Int):=by omega
    have J:j<t.length:=by have:=s.o;omega
    have R:(j:Int)<(t.length:Int):=by omega
    obtain ⟨-,-,-,b,k,x,a3,l3,c3,Z,l4,c4,rfl,Y,hx,I,k0,k1,k2,k3,k4,k5⟩:=H.o.at Q;obtain ⟨-,-,-,z,c,y,a5,l5,c5,a6,l6,c6,rfl,K,hy,u,m0,m1,m2,m3,m4,m5⟩:=H'.out.at J;have g:=P.o b Y;have a:=D.out z K;have q0:=(m.cell (p:=⟨b,k+j * 6,none⟩) g).trans k0;have W:=(m.cell (p:=⟨b,k+j * 6+1,none⟩) g).trans k1;have N:=(m.cell (p:=⟨b,k+j * 6+2,none⟩) g).trans k2;have q3:=(m.cell (p:=⟨b,k+j * 6+3,none⟩) g).trans k3;have q4:=(m.cell (p:=⟨b,k+j * 6+4,none⟩) g).trans k4;have q5:=(m.cell (p:=⟨b,k+j * 6+5,none⟩) g).trans k5;have n:=m.trans (((Br wr.heap.size wr).alloc (o:=.cells (Na x a3 l3 c3 Z l4 c4) 28) (Lr _)).mono m.size);have r0:=(n.cell (p:=⟨z,c+j * 6,none⟩) a).trans m0;have r1:=(n.cell (p:=⟨z,c+j * 6+1,none⟩) a).trans m1;have r2:=(n.cell (p:=⟨z,c+j * 6+2,none⟩) a).trans m2;have r3:=(n.cell (p:=⟨z,c+j * 6+3,none⟩) a).trans m3;have r4:=(n.cell (p:=⟨z,c+j * 6+4,none⟩) a).trans m4;have r5:=(n.cell (p:=⟨z,c+j * 6+5,none⟩) a).trans m5;have F:=n.alloc (o:=.cells (Na y a5 l5 c5 a6 l6 c6) 28) n.size;have V:=Hh (X.o d' S O _ _ x y ((wr.alloc (.cells (Na x a3 l3 c3 Z l4 c4) 28)).alloc (.cells (Na y a5 l5 c5 a6 l6 c6) 28)) (I.same fun b B=>F.block b (P.o b B)) (u.same fun b B=>F.block b (D.out b B)) (fun b B=>Ll (P.o b B) F.size) (fun b B=>Ll (D.out b B) F.size))
    clear k0 k1 k2 k3 k4 k5 m0 m1 m2 m3 m4 m5 I u n;have T:=Hh r;have HX:=Hh hx;have HY:=Hh hy;have B2:=Hh F;clear hx hy r F m
    go_upto_if 30 with ((with_reducible refine (V.o).mono ?_);rintro e w1 ⟨bb,rfl,q,A⟩)
    have L:=B2.o.trans (A.mono B2.o.size);cases bb with
    | true=>
     have l:x=y:=q.1 rfl;have E:=Hh l;clear q l A q0 W N q3 q4 q5 r0 r1 r2 r3 r4 r5
     go_wp2
     go_roundw
     case rel=>exact ⟨j+1,by go_num,by omega,by rw [Bf,Bf,HX.o,HY.o,T.o,E.o],L⟩
     case measure=>simp [intOf];omega
    | false=>
     have l:x ≠ y:=fun e=>by have:=q.2 e;cases this
     have E:=Hh l;clear q l A q0 W N q3 q4 q5 r0 r1 r2 r3 r4 r5
     go_wp2
     go_ret
     refine ⟨false,rfl,⟨fun e=>(by cases e),fun e=>?_⟩,L⟩
     have h1:=HX.o;rw [e,HY.o] at h1;exact absurd (Ab h1).symm E.o
   ·have M:¬ (j:Int)<(ns.length:Int):=by omega
    have T:=Hh r;clear r
    go_wp2
    go_ret
    refine ⟨true,rfl,⟨fun _=>?_,fun _=>rfl⟩,m⟩
    have:=T.o;have hl:=s.o
    rwa [Ak (by omega),Ak (by omega)] at this
 ·have C:((ns.length:Int) != (t.length:Int))=true:=by simp;omega
  have HL:=Hh f;clear f
  go_enter func89,ntmps89
  go_wp2
  go_ret
  exact ⟨false,rfl,⟨fun e=>(by cases e),fun e=>absurd (by rw [e]) HL.o⟩,Br _ _⟩
theorem aLf (x y:ND):x=y↔x.kind=y.kind∧x.bool=y.bool∧x.num=y.num∧x.text=y.text∧x.names=y.names∧x.items=y.items:=by
 obtain ⟨k,b,n,t,ns,its⟩:=x;obtain ⟨e,f,n',d,c,a⟩:=y;simp [ND.kind,ND.bool,ND.num,ND.text,ND.names,ND.items]
theorem WY {d:Nat} (HV:JH d):JH (d+1):=by
 intro d' S S' cs xh x y w h h' z i;obtain ⟨T,Q,c3,M,P,R,rfl⟩:=h.slices;obtain ⟨a5,l5,c5,a6,U,c6,rfl⟩:=h'.slices;cases d' with
 | zero=>exact h'.elim
 | succ d'=>
 obtain ⟨vn,vi,e,ht,J,K⟩:=h;simp only [Bu,Dd,Dj] at e;obtain ⟨rfl,rfl⟩:=e;obtain ⟨xg,xj,e,xb,C,D⟩:=h';simp only [Bu,Dd,Dj] at e;obtain ⟨rfl,rfl⟩:=e;have g:Below w.heap.size w ((w.alloc (.cells (Na x T Q c3 M P R) 28)).alloc (.cells (Na y a5 l5 c5 a6 U c6) 28)):=((Br _ _).alloc (Lr _) _).alloc (by simp) _
 obtain ⟨l,c⟩:∃W,W=(w.alloc (.cells (Na x T Q c3 M P R) 28)).alloc (.cells (Na y a5 l5 c5 a6 U c6) 28):=⟨_,rfl⟩;have hz:(w.alloc (.cells (Na x T Q c3 M P R) 28)).heap.size=w.heap.size+1:=by simp
 have F:l.heap[w.heap.size]?=some (.cells (Na x T Q c3 M P R) 28 (0,0)):=by rw [c];exact (Bj _ _ _ (by omega)).trans (Hn _ _)
 have B:l.heap[w.heap.size+1]?=some (.cells (Na y a5 l5 c5 a6 U c6) 28 (0,0)):=by rw [c,←hz];exact Hn _ _
 rw [←c] at g;have xe:=Aa B;have FE:=Hh (fun (n:World) (j:Below l.heap.size l n)=>SL _ _ x.names y.names n (J.same (w':=n) fun b a=>(j.block b (Ll (z b a) g.size)).trans (g.block b (z b a))) (C.same (w':=n) fun b a=>(j.block b (Ll (i b a) g.size)).trans (g.block b (i b a))) (fun b a=>Ll (Ll (z b a) g.size) j.size) (fun b a=>Ll (Ll (i b a) g.size) j.size))
 have FI:=Hh (fun (n:World) (j:Below l.heap.size l n)=>NP HV _ _ x.items y.items n
  (K.same (w':=n) (R':=aD d S n) (fun b a=>(j.block b (Ll (z b a) g.size)).trans (g.block b (z b a))) fun cs y q=>q.same fun b a=>(j.block b (Ll (z b a) g.size)).trans (g.block b (z b a)))
  (D.same (w':=n) (R':=aD d' S' n) (fun b a=>(j.block b (Ll (i b a) g.size)).trans (g.block b (i b a))) fun cs y q=>q.same fun b a=>(j.block b (Ll (i b a) g.size)).trans (g.block b (i b a)))
  (fun b a=>Ll (Ll (z b a) g.size) j.size) (fun b a=>Ll (Ll (i b a) g.size) j.size))
 have F1:=Hh (fun (n:World) (j:Below l.heap.size l n)=>aA ((j.block _ (by omega:w.heap.size<l.heap.size)).trans F))
 have F2:=Hh (fun (n:World) (j:Below l.heap.size l n)=>aA ((j.block _ xe).trans B))
 have xa:=aA F;have Z:=aA B;have O:=Hh g;have E:=Hh (aLf x y);clear J K C D z i HV hz F B g ht xb;have L:∀ (v:World) (b:Bool),Below l.heap.size l v→(b=true↔x=y)→∃b':Bool,Ending.returned (.bool b)=.returned (.bool b')∧(b'=true↔x=y)∧Below w.heap.size w v:=fun v b j h=>⟨b,rfl,h,O.o.trans (j.mono O.o.size)⟩
 have xc:=Hh L;clear L;have no:∀ (v:World),Below l.heap.size l v→x ≠ y→oC (x=y) w (.returned (.bool false)) v:=fun v j h=>⟨false,rfl,⟨fun e=>(by cases e),fun e=>absurd e h⟩,O.o.trans (j.mono O.o.size)⟩
 have I:=Hh no;clear no
 by_cases A:x.kind=y.kind
 ·have xd:(x.kind == y.kind)=true:=by simp [A]
  by_cases k:x.bool=y.bool
  ·have r:(x.bool == y.bool)=true:=by simp [k]
   by_cases m:x.num=y.num
   ·have X:(x.num == y.num)=true:=by simp [m]
    by_cases u:x.text=y.text
    ·have V:=nH u
     have t:=Hh (Ai A (Ai k (Ai m u)));clear A k m u
     by_cases f:x.names=y.names
     ·have H:=Hh f
      clear f
      go_enter func54,ntmps54
      go_upto_region 1 with fail
      rw [←c];clear c
      go_wp2_with (first
       | (go_at_call 88;(with_reducible refine (FE.o _ (Br _ _)).mono ?_);rintro e v ⟨N,rfl,r,s⟩;obtain rfl:N=true:=r.2 H.o;(have xi:=F1.o v s);(have xf:=F2.o v s);clear xa Z r)
       | (go_at_call 89;(with_reducible refine (FI.o _ s).mono ?_);rintro e w3 ⟨b3,rfl,Y,G⟩))
      go_ret
      exact xc.o _ b3 (s.trans (G.mono s.size)) (Y.trans ⟨fun hi=>E.o.2 ⟨t.o.1,t.o.2.1,t.o.2.2.1,t.o.2.2.2,H.o,hi⟩,fun e=>(E.o.1 e).2.2.2.2.2⟩)
     ·have H:=Hh f
      clear f
      go_enter func54,ntmps54
      go_upto_region 1 with fail
      rw [←c];clear c
      go_wp2_with (go_at_call 88;(with_reducible refine (FE.o _ (Br _ _)).mono ?_);rintro e v ⟨N,rfl,r,s⟩;obtain rfl:N=false:=(by cases N;rfl;exact absurd (r.1 rfl) H.o);clear r)
      go_ret
      exact I.o _ s fun e=>H.o (E.o.1 e).2.2.2.2.1
    ·have V:=jE u
     have p:=Hh (fun e:x=y=>u (E.o.1 e).2.2.2.1)
     clear A k m u
     go_enter func54,ntmps54
     go_upto_region 1 with fail
     rw [←c];clear c
     go_wp2
     go_ret
     exact I.o _ (Br _ _) p.o
   ·have X:(x.num == y.num)=false:=by simp [m]
    have p:=Hh (fun e:x=y=>m (E.o.1 e).2.2.1)
    clear A k m
    go_enter func54,ntmps54
    go_upto_region 1 with fail
    rw [←c];clear c
    go_wp2
    go_ret
    exact I.o _ (Br _ _) p.o
  ·have r:(x.bool == y.bool)=false:=by simp [k]
   have p:=Hh (fun e:x=y=>k (E.o.1 e).2.1)
   clear A k
   go_enter func54,ntmps54
   go_upto_region 1 with fail
   rw [←c];clear c
   go_wp2
   go_ret
   exact I.o _ (Br _ _) p.o
 ·have xd:(x.kind == y.kind)=false:=by simp [A]
  have p:=Hh (fun e:x=y=>A (E.o.1 e).1)
  clear A
  go_enter func54,ntmps54
  go_upto_region 1 with fail
  rw [←c];clear c
  go_wp2
  go_ret
  exact I.o _ (Br _ _) p.o
theorem LM:∀d,JH d
 | 0=>fun b S c e a x y w h _ _ _=>h.elim
 | d+1=>WY (LM d)
theorem aJr (x y:ND):x=y↔x.kind=y.kind∧x.bool=y.bool∧x.num=y.num∧x.text=y.text∧x.names=y.names∧x.items=y.items:=by
 obtain ⟨k,b,n,t,ns,its⟩:=x;obtain ⟨e,f,n',d,c,a⟩:=y;simp [ND.kind,ND.bool,ND.num,ND.text,ND.names,ND.items]
def JJ (d:Nat):Prop:=∀ (f:Nat) (S c:Nat→Prop) (e a:Vl) (x y:ND) (w:World),aD d S w e x→aD f c w a y→(∀b,S b→b<w.heap.size)→(∀b,c b→b<w.heap.size)→Calls prog 13 #[.agg e.toArray,.agg a.toArray] w (oC (x=y) w)
theorem QF {d:Nat} (HV:JJ d):JJ (d+1):=by
 intro d' S S' cs y5 x y w h h' hS M;obtain ⟨a3,z,c3,a4,v,c4,rfl⟩:=h.slices;obtain ⟨a5,T,c5,a6,O,c6,rfl⟩:=h'.slices;cases d' with
 | zero=>exact h'.elim
 | succ d'=>
 obtain ⟨vn,vi,e,ht,Z,xa⟩:=h;simp only [Bu,Dd,Dj] at e;obtain ⟨rfl,rfl⟩:=e;obtain ⟨y8,za,e,yg,P,L⟩:=h';simp only [Bu,Dd,Dj] at e;obtain ⟨rfl,rfl⟩:=e;have xm:z=x.names.length:=by obtain ⟨_,_,e,_⟩:=id Z;cases e;rfl
 have xw:v=x.items.length:=by obtain ⟨_,_,e,_⟩:=id xa;cases e;rfl
 have xt:T=y.names.length:=by obtain ⟨_,_,e,_⟩:=id P;cases e;rfl
 have x9:O=y.items.length:=by obtain ⟨_,_,e,_⟩:=id L;cases e;rfl
 have zc:z≤9223372036854775807:=by obtain ⟨_,_,e,p1,p2,_⟩:=id Z;cases e;unfold maxLen at p2;omega
 have y9:v≤9223372036854775807:=by obtain ⟨_,_,e,p1,p2,_⟩:=id xa;cases e;unfold maxLen at p2;omega
 have G:Below w.heap.size w ((w.alloc (.cells (Na x a3 z c3 a4 v c4) 28)).alloc (.cells (Na y a5 T c5 a6 O c6) 28)):=((Br _ _).alloc (Lr _) _).alloc (by simp) _
 obtain ⟨l,c⟩:∃W,W=(w.alloc (.cells (Na x a3 z c3 a4 v c4) 28)).alloc (.cells (Na y a5 T c5 a6 O c6) 28):=⟨_,rfl⟩;have hz:(w.alloc (.cells (Na x a3 z c3 a4 v c4) 28)).heap.size=w.heap.size+1:=by simp
 have xf:l.heap[w.heap.size]?=some (.cells (Na x a3 z c3 a4 v c4) 28 (0,0)):=by rw [c];exact (Bj _ _ _ (by omega)).trans (Hn _ _)
 have Y:l.heap[w.heap.size+1]?=some (.cells (Na y a5 T c5 a6 O c6) 28 (0,0)):=by rw [c,←hz];exact Hn _ _
 rw [←c] at G;have xk:=Aa Y;have xh:w.heap.size<l.heap.size:=by omega
 have F1:=Hh (fun (wx:World) (n:Below l.heap.size l wx)=>aA ((n.block _ xh).trans xf))
 have F2:=Hh (fun (wx:World) (n:Below l.heap.size l wx)=>aA ((n.block _ xk).trans Y))
 have yo:=aA xf;have yw:=aA Y;have B2:=Hh G;have HE:=Hh (aJr x y);have HN:=Hh (Z.same (w':=l) fun b k=>G.block b (hS b k))
 have yf:=Hh (P.same (w':=l) fun b k=>G.block b (M b k))
 have HI:=Hh (xa.same (w':=l) (R':=aD d S l) (fun b k=>G.block b (hS b k)) fun cs y q=>q.same fun b k=>G.block b (hS b k))
 have yl:=Hh (L.same (w':=l) (R':=aD d' S' l) (fun b k=>G.block b (M b k)) fun cs y q=>q.same fun b k=>G.block b (M b k))
 have HS:=Hh (fun b n=>Ll (hS b n) G.size)
 have xj:=Hh (fun b n=>Ll (M b n) G.size)
 have yz:=Hh HV;have L3:=Hh xm;have L4:=Hh xw;have L5:=Hh xt;have L6:=Hh x9;have ye:=Hh (Ai xh xk);have no:∀ (w2:World),Below l.heap.size l w2→x ≠ y→oC (x=y) w (.returned (.bool false)) w2:=fun w2 n h=>⟨false,rfl,⟨fun e=>(by cases e),fun e=>absurd e h⟩,B2.o.trans (n.mono B2.o.size)⟩
 have NO:=Hh no;have xp:∀ (w2:World),Below l.heap.size l w2→x=y→oC (x=y) w (.returned (.bool true)) w2:=fun w2 n h=>⟨true,rfl,⟨fun _=>h,fun _=>rfl⟩,B2.o.trans (n.mono B2.o.size)⟩
 have yt:=Hh xp;clear Z xa P L hS M HV hz xf Y G ht yg no xp xm xw xt x9 xh xk
 by_cases C:x.kind=y.kind
 ·have yr:(x.kind != y.kind)=false:=by simp [C]
  have ya:(x.kind == y.kind)=true:=by simp [C]
  by_cases H:x.bool=y.bool
  ·have yk:(x.bool != y.bool)=false:=by simp [H]
   have yb:(x.bool == y.bool)=true:=by simp [H]
   by_cases J:x.num=y.num
   ·have yy:(x.num != y.num)=false:=by simp [J]
    have xr:(x.num == y.num)=true:=by simp [J]
    by_cases R:x.text=y.text
    ·have yc:(x.text.toList != y.text.toList)=false:=by simp [R]
     have xy:=nH R
     by_cases e5:z=T
     ·have yx:((z:Int) != (T:Int))=false:=by simp [e5]
      have xo:((z:Int) == (T:Int))=true:=by simp [e5]
      by_cases e6:v=O
      ·have yv:((v:Int) != (O:Int))=false:=by simp [e6]
       have x8:((v:Int) == (O:Int))=true:=by simp [e6]
       have g:=Hh (Ai C (Ai H (Ai J (Ai R (Ai e5 e6)))));clear C H J R e5 e6
       go_enter func13,ntmps13
       go_upto_region 1 with fail
       rw [←c];clear c
       go_upto_region 4 with fail
       go_loopw [5,6,56] (fun u5 u6 i wr=>∃j:Nat,i=Iz j∧j≤z∧x.names.take j=y.names.take j∧wr=l) (fun _ _ i _=>z - (intOf i).toNat)
       case atStart=>exact ⟨0,rfl,Av _,by simp,rfl⟩
       case round=>
        obtain ⟨j,rfl,hj,r,xd⟩:=hrel
        replace xd:=xd.symm
        subst xd
        by_cases xq:j<z
        ·have Q:(j:Int)<(z:Int):=by omega
         have zd:(0:Int)≤(j:Int):=by omega
         have xe:(j:Int)<(T:Int):=by have:=g.o.2.2.2.2.1;omega
         obtain ⟨s,hs⟩:∃s,x.names[j]?=some s:=⟨_,Ac (by have:=L3.o;omega)⟩
         obtain ⟨t,ht⟩:∃t,y.names[j]?=some t:=⟨_,Ac (by have:=L5.o;have:=g.o.2.2.2.2.1;omega)⟩
         obtain ⟨b1,o1,rfl,y7,k1⟩:=HN.o.get hs;obtain ⟨G,o2,rfl,zb,k2⟩:=yf.out.get ht;have HQ:=Hh r;have HA:=Hh hs;have HT:=Hh ht;clear hs ht r
         by_cases u:t=s
         ·have ym:(t.toList != s.toList)=false:=by simp [u]
          have ys:=nH u;have xg:=Hh u;clear u
          go_wp2
          go_roundw
          case rel=>exact ⟨j+1,by go_num,by omega,by rw [Bf,Bf,HA.o,HT.o,HQ.o,xg.o],(by first | exact rfl | trivial)⟩
          case measure=>simp [intOf];omega
         ·have ym:(t.toList != s.toList)=true:=by rw [bne,jE u];rfl
          have ys:=jE u;have xg:=Hh u;clear u
          go_wp2
          go_ret
          refine NO.o _ (Br _ _) fun e=>?_
          have h1:=HA.o;rw [e,HT.o] at h1;exact xg.o (Ab h1)
        ·have Q:¬ (j:Int)<(z:Int):=by omega
         have xn:x.names=y.names:=by
          have h3:=L3.o;have h5:=L5.o;have y3:=g.o.2.2.2.2.1
          rwa [Ak (by omega),Ak (by omega)] at r
         have yq:=Hh xn;clear xn r hj xq
         go_upto_region 10 with fail
         go_loopw [7,8,72] (fun u7 u8 i wr=>∃j:Nat,i=Iz j∧j≤v∧x.items.take j=y.items.take j∧Below l.heap.size l wr) (fun _ _ i _=>v - (intOf i).toNat)
         case atStart=>exact ⟨0,rfl,Av _,by simp,Br _ _⟩
         case round=>
          obtain ⟨q,rfl,hq,r,I⟩:=hrel
          by_cases xq:q<v
          ·have Q:(q:Int)<(v:Int):=by omega
           have y6:(0:Int)≤(q:Int):=by omega
           have xx:=g.o.2.2.2.2.2;have xe:(q:Int)<(O:Int):=by omega
           obtain ⟨-,-,-,b,E,U,a7,l7,c7,a8,l8,c8,rfl,y1,x5,xs,k0,k1,k2,k3,k4,k5⟩:=HI.o.at (j:=q) (by have:=L4.o;omega)
           obtain ⟨-,-,-,B,a,yi,a9,l9,c9,a0,l0,c0,rfl,xv,xz,xb,m0,m1,m2,m3,m4,m5⟩:=yl.out.at (j:=q) (by have:=L6.o;omega)
           have D:=HS.o b y1;have m:=xj.out B xv;have q0:=(I.cell (p:=⟨b,E+q * 6,none⟩) D).trans k0;have q1:=(I.cell (p:=⟨b,E+q * 6+1,none⟩) D).trans k1;have q2:=(I.cell (p:=⟨b,E+q * 6+2,none⟩) D).trans k2;have q3:=(I.cell (p:=⟨b,E+q * 6+3,none⟩) D).trans k3;have q4:=(I.cell (p:=⟨b,E+q * 6+4,none⟩) D).trans k4;have q5:=(I.cell (p:=⟨b,E+q * 6+5,none⟩) D).trans k5;have bA:=I.alloc (o:=.cells (Na U a7 l7 c7 a8 l8 c8) 28) I.size;have cA:=aA (Hn wr (.cells (Na U a7 l7 c7 a8 l8 c8) 28));have cY:=(F2.o _ I).2.2.2.2.2;have y4:=Ll ye.o.2 I.size;have HX:=Hh x5;have HY:=Hh xz;have HQ:=Hh r;have HH:=Hh (Ai xs xb);have HM:=Hh (Ai m0 (Ai m1 (Ai m2 (Ai m3 (Ai m4 m5)))));clear k0 k1 k2 k3 k4 k5 m0 m1 m2 m3 m4 m5 xs xb x5 xz r I xx yo yw
           go_upto_region 12 with fail
           generalize wr.alloc (.cells (Na U a7 l7 c7 a8 l8 c8) 28)=xu at bA cA ⊢;have F:=bA.drew;have yu:=(F.cell (p:=⟨B,a+q * 6,none⟩) m).trans HM.o.1;have yn:=(F.cell (p:=⟨B,a+q * 6+1,none⟩) m).trans HM.o.2.1;have yd:=(F.cell (p:=⟨B,a+q * 6+2,none⟩) m).trans HM.o.2.2.1;have y2:=(F.cell (p:=⟨B,a+q * 6+3,none⟩) m).trans HM.o.2.2.2.1;have yj:=(F.cell (p:=⟨B,a+q * 6+4,none⟩) m).trans HM.o.2.2.2.2.1;have yh:=(F.cell (p:=⟨B,a+q * 6+5,none⟩) m).trans HM.o.2.2.2.2.2;have V:=Hh (yz.o d' S S' _ _ U yi xu.drew (HH.o.1.same fun b n=>F.block b (HS.o b n)) (HH.o.2.same fun b n=>F.block b (xj.out b n)) (fun b n=>Ll (HS.o b n) F.size) (fun b n=>Ll (xj.out b n) F.size))
           have yp:=(F2.o _ F).2.2.2.2.2;have BD:=Hh F;clear q0 q1 q2 q3 q4 q5 cY F bA;refine aI (fun w'=>(w'.cell? ⟨wr.heap.size,0,none⟩=some (Iz U.kind)∧w'.cell? ⟨wr.heap.size,1,none⟩=some (.bool U.bool)∧w'.cell? ⟨wr.heap.size,2,none⟩=some (Iz U.num)∧w'.cell? ⟨wr.heap.size,3,none⟩=some (.string U.text)∧w'.cell? ⟨wr.heap.size,4,none⟩=some (.slice a7 l7 c7)∧w'.cell? ⟨wr.heap.size,5,none⟩=some (.slice a8 l8 c8))∧w'.cell? ⟨w.heap.size+1,5,none⟩=some (.slice (some ⟨B,a,none⟩) O c6)∧w'.cell? ⟨B,a+q * 6,none⟩=some (Iz yi.kind)∧w'.cell? ⟨B,a+q * 6+1,none⟩=some (.bool yi.bool)∧w'.cell? ⟨B,a+q * 6+2,none⟩=some (Iz yi.num)∧w'.cell? ⟨B,a+q * 6+3,none⟩=some (.string yi.text)∧w'.cell? ⟨B,a+q * 6+4,none⟩=some (.slice a9 l9 c9)∧w'.cell? ⟨B,a+q * 6+5,none⟩=some (.slice a0 l0 c0)) [0,2,5] (.take 0 (.take 1 (.take 2 (.take 3 (.take 4 (.take 5 (.ask 6 false (.ask 7 false .stop .stop) .stop))))))) (by kernel_rfl) (by kernel_rfl) (fun _ d _ _ _ h=>by cases d <;> exact h) ⟨cA,yp,yu,yn,yd,y2,yj,yh⟩ ?_
           generalize xu.drew=wd at V BD ⊢;refine aM _ ?_ rfl rfl (by decide) ?_ (fun K A=>?_);rotate_left;(intro w0 N;obtain ⟨⟨s0,s1,s2,s3,s4,s5⟩,-⟩:=N;go_simp;(try rfl));(go_simp;refine A _ ?_;clear A K)
           refine aF _ ?_ rfl rfl ?_ (fun K A=>?_);rotate_left;(intro w0;go_simp;(try rfl));(go_simp;refine A _ ?_;clear A K)
           refine aM _ ?_ rfl rfl (by decide) ?_ (fun K A=>?_);rotate_left;(intro w0 N;obtain ⟨-,s0,-⟩:=N;go_simp;(try rfl));(go_simp;refine A _ ?_;clear A K)
           iterate 2 (refine aF _ ?_ rfl rfl ?_ (fun K A=>?_);rotate_left;(intro w0;go_simp;(try rfl));(go_simp;refine A _ ?_;clear A K))
           refine aM _ ?_ rfl rfl (by decide) ?_ (fun K A=>?_);rotate_left;(intro w0 N;obtain ⟨-,-,s0,s1,s2,s3,s4,s5⟩:=N;go_simp;(try rfl));(go_simp;refine A _ ?_;clear A K)
           refine aB _ rfl trivial ?_;go_wp2_with (go_at_call 13;refine (V.o).mono ?_;rintro e wn ⟨bb,rfl,X,xc⟩);refine Seg.mk ?_;have x7:=BD.o.trans (xc.mono BD.o.size);cases bb with
           | true=>
            have f:U=yi:=X.1 rfl;have xl:=Hh f;clear X f xc;refine bQ _ rfl trivial ?_
            go_wp2
            go_roundw
            case rel=>exact ⟨q+1,by go_num,by omega,by rw [Bf,Bf,HX.o,HY.o,HQ.o,xl.o],x7⟩
            case measure=>simp [intOf];omega
           | false=>
            have f:U ≠ yi:=fun e=>by have:=X.2 e;cases this
            have xl:=Hh f;clear X f xc;refine bQ _ rfl trivial ?_
            go_wp2
            go_ret
            refine NO.o _ x7 fun e=>?_
            have h1:=HX.o;rw [e,HY.o] at h1;exact xl.o (Ab h1).symm
          ·have Q:¬ (q:Int)<(v:Int):=by omega
           have x6:x.items=y.items:=by
            have h4:=L4.o;have h6:=L6.o;have xx:=g.o.2.2.2.2.2
            rwa [Ak (by omega),Ak (by omega)] at r
           have y0:=Hh x6;clear x6 r
           go_wp2
           go_ret
           exact yt.o _ I (HE.o.2 ⟨g.o.1,g.o.2.1,g.o.2.2.1,g.o.2.2.2.1,yq.o,y0.o⟩)
      ·have yv:((v:Int) != (O:Int))=true:=by simp;omega
       have x8:((v:Int) == (O:Int))=false:=by simp;omega
       have f:=Hh (fun e:x=y=>e6 (by rw [L4.o,L6.o,e]))
       clear C H J R e5 e6
       go_enter func13,ntmps13
       go_upto_region 1 with fail
       rw [←c];clear c
       go_wp2
       go_ret
       exact NO.o _ (Br _ _) f.o
     ·have yx:((z:Int) != (T:Int))=true:=by simp;omega
      have xo:((z:Int) == (T:Int))=false:=by simp;omega
      have f:=Hh (fun e:x=y=>e5 (by rw [L3.o,L5.o,e]))
      clear C H J R e5
      go_enter func13,ntmps13
      go_upto_region 1 with fail
      rw [←c];clear c
      go_wp2
      go_ret
      exact NO.o _ (Br _ _) f.o
    ·have yc:(x.text.toList != y.text.toList)=true:=by rw [bne,jE R];rfl
     have xy:=jE R;have f:=Hh (fun e:x=y=>R (HE.o.1 e).2.2.2.1)
     clear C H J R
     go_enter func13,ntmps13
     go_upto_region 1 with fail
     rw [←c];clear c
     go_wp2
     go_ret
     exact NO.o _ (Br _ _) f.o
   ·have yy:(x.num != y.num)=true:=by simp [J]
    have xr:(x.num == y.num)=false:=by simp [J]
    have f:=Hh (fun e:x=y=>J (HE.o.1 e).2.2.1)
    clear C H J
    go_enter func13,ntmps13
    go_upto_region 1 with fail
    rw [←c];clear c
    go_wp2
    go_ret
    exact NO.o _ (Br _ _) f.o
  ·have yk:(x.bool != y.bool)=true:=by simp [H]
   have yb:(x.bool == y.bool)=false:=by simp [H]
   have f:=Hh (fun e:x=y=>H (HE.o.1 e).2.1)
   clear C H
   go_enter func13,ntmps13
   go_upto_region 1 with fail
   rw [←c];clear c
   go_wp2
   go_ret
   exact NO.o _ (Br _ _) f.o
 ·have yr:(x.kind != y.kind)=true:=by simp [C]
  have ya:(x.kind == y.kind)=false:=by simp [C]
  have f:=Hh (fun e:x=y=>C (HE.o.1 e).1)
  clear C
  go_enter func13,ntmps13
  go_upto_region 1 with fail
  rw [←c];clear c
  go_wp2
  go_ret
  exact NO.o _ (Br _ _) f.o
theorem uX:∀d,JJ d
 | 0=>fun b S c e a x y w h _ _ _=>h.elim
 | d+1=>QF (uX d)
end Go.Proofs.YtncdpanfefnjlaaGreatDoor