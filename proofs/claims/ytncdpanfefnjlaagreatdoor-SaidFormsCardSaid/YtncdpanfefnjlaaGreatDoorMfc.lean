import Derived.Test.YtncdpanfefnjlaaGreatDoorNnam
set_option linter.unusedVariables false
set_option linter.unusedSimpArgs false
set_option maxRecDepth 100000
set_option maxHeartbeats 3200000
namespace Go.Proofs.YtncdpanfefnjlaaGreatDoor
open Go.Proofs.Tryz
open Go Go.ChangeShapes Go.WideShapes Go.ChangeAt Go.RowKit
def jZ:Nat→ND→Prop
 | 0,_=>True
 | d+1,x=>x.names.length≤1000000∧x.items.length≤1000000∧∀y,y ∈ x.items→jZ d y
theorem dS:∀ (d e:Nat) (x:ND),aC d x=true→jZ e x
 | _,0,_,_=>trivial
 | 0,e+1,_,h=>by cases h
 | d+1,e+1,x,h=>by
  rw [cV,An,Ax] at h;obtain ⟨c,f⟩:=h;unfold fC at c;simp only [An,Ee,As] at c;obtain ⟨⟨⟨⟨⟨⟨⟨⟨⟨⟨⟨-,-⟩,-⟩,-⟩,-⟩,-⟩,a⟩,-⟩,i⟩,b⟩,-⟩,-⟩:=c;refine ⟨?_,by omega,fun y g=>dS d e y (f y g)⟩
  rcases a with a | a
  ·omega
  ·rcases b with b | b
   ·exact absurd a b
   ·omega
theorem xQ {P:Program} {S:Nat→Prop} (w:World) {t ty e:TypeId} {i:TypeInfo} {v:Value} {ns:List Bt} (l:P.underlying t=some (.slice e)) (m:P.info? e=some i) (A:i.zero=some (.string ⟨#[]⟩)) (y:i.size=1) (z:i.bytes=16) (h:bH S w v ns) (E:ns.length≤1000000) :
 ∃f w',(Builtin.append_ #[t,t] ty #[Sn,v]).run P w=.ok f w'∧w'.ownsRow w.heap.size e 1 f ns.length (ns.map Value.string)∧w.grownBy w' none:=by
 obtain ⟨n,g,rfl,C,D,k⟩:=h;have c:=Dk w w.heap.size e 1;cases n with
 | none=>
  have:ns=[]:=by
   cases ns with
   | nil=>rfl
   | cons s t=>obtain ⟨_,_,h,_⟩:=k 0 s rfl;cases h
  subst this;exact ⟨Sn,w,by simp [Builtin.append_,run_underlying l,sizeOf,typeInfo,m,Builtin.lenOf,Builtin.firstCells,loadCells,loadCellsFrom],c,World.grownBy.refl _ _⟩
 | some a=>
  obtain ⟨f,w',p,r,x,_⟩:=run_append_own_at (P:=P) w w.heap.size t ty e i (.string ⟨#[]⟩) 1 16 l m A y z rfl (by decide) (Sn) 0 [] c a ns.length g (ns.map Value.string) (by simp) (fun j u d=>by
   rw [Be] at d;cases hj:ns[j]? with
   | none=>rw [hj] at d;cases d
   | some s=>
    rw [hj] at d;obtain rfl:Value.string s=u:=by simpa using d
    obtain ⟨b,B,q,_,o,_⟩:=k j s hj;cases q;rw [Bs];exact o) (by intro u d;obtain ⟨s,_,rfl⟩:=Bp.1 d;rfl) (by unfold maxLen;omega) (by omega) (Lr _)
  exact ⟨f,w',p,by simpa using r,x⟩
theorem lS {P:Program} {S:Nat→Prop} (w:World) {b:Array Oper} {rest:List Oper} {o:Oper} {a:Act} {Q:Exit→Act→World→Prop} (f:Region.wanted o (yielded b a.tmps)=true) (s x:Operand) (t:TypeId)
 (l:o.op=.call { callee:=.builtin .append,args:=#[s,x],argTypes:=#[t,t] }) (e:TypeId) (i:TypeInfo) (u:P.underlying t=some (.slice e)) (q:P.info? e=some i) (j:i.zero=some (.string ⟨#[]⟩)) (r:i.size=1) (g:i.bytes=16)
 (d:a.eval s=Sn) (v:Value) (ns:List Bt) (y:a.eval x=v) (k:bH S w v ns) (A:ns.length≤1000000)
 (h:∀c w',w'.ownsRow w.heap.size e 1 c ns.length (ns.map Value.string)→w.grownBy w' none→wpList P b Q rest (a.put o.dst c) w'):wpList P b Q (o::rest) a w:=by
 refine BigFrame.wpList_want f fun K p=>?_
 obtain ⟨c,w',z,m,n⟩:=xQ (P:=P) (ty:=o.type) w u q j r g k A;unfold Oper.wp execOp;simp only [l,resolve,invoke,builtin,Sem.run_bind,Sem.run_pure,Result.andThen_ok,List.map_toArray,Bq,List.map_nil,d,y,z];exact p _ _ (h c w' m n)
def oA (w:World) (b:Nat):Prop:=∃a T,w.heap[b]?=some (.cells a T (0,0))
def Fr (base:Nat) (w:World) (b:Nat):Prop:=base≤b∧b<w.heap.size∧oA w b
theorem Fr.move {base base':Nat} {w w':World} {b:Nat} (h:Fr base w b) (e:w'.heap[b]?=w.heap[b]?) (d:base'≤base) (i:w.heap.size≤w'.heap.size):Fr base' w' b:=by
 obtain ⟨f,g,c,T,a⟩:=h;exact ⟨by omega,by omega,c,T,e.trans a⟩
theorem bH.and {S g:Nat→Prop} {w:World} {v:Value} {ns:List Bt} (h:bH S w v ns) (k:bH g w v ns):bH (fun b=>S b∧g b) w v ns:=by
 obtain ⟨o,d,e,p,r,x⟩:=h;obtain ⟨z,i,f,B,C,q⟩:=k;rw [e] at f;cases f;refine ⟨o,d,e,p,r,fun j s n=>?_⟩
 obtain ⟨b,c,m,u,t,y⟩:=x j s n;obtain ⟨D,l,a,A,_,_⟩:=q j s n;rw [m] at a;cases a;exact ⟨b,c,m,⟨u,A⟩,t,y⟩
theorem aD.and {S r:Nat→Prop} {w:World}:∀ {d:Nat} {i:Vl} {x:ND},aD d S w i x→aD d r w i x→aD d (fun b=>S b∧r b) w i x
 | 0,_,_,h,_=>h.elim
 | d+1,i,x,h,k=>by
  obtain ⟨P,J,e,N,G,Q⟩:=h;obtain ⟨M,V,a,_,H,F⟩:=k;rw [e] at a;simp only [Bu,Dd,Dj] at a;obtain ⟨rfl,rfl⟩:=a;refine ⟨P,J,e,N,G.and H,?_⟩;obtain ⟨B,o,e,C,E,K⟩:=Q;obtain ⟨R,s,a,W,Y,D⟩:=F;rw [e] at a;cases a;refine ⟨B,o,e,C,E,fun j y v=>?_⟩
  obtain ⟨b,n,g,u,I,p,q⟩:=K j y v;obtain ⟨b',t,l,c,T,O,z⟩:=D j y v;rw [u] at c;cases c;have m:g=l:=by
   apply List.ext_getElem?
   intro f;have Z:=q.len;have X:=z.len;rcases Cf f 6 with U | U
   ·have L:=p f _ (Ac (by omega))
    have A:=O f _ (Ac (by omega))
    rw [L] at A;rw [Ac (by omega),Ac (by omega)]
    exact A
   ·rw [Cb (by omega),Cb (by omega)]
  subst m;exact ⟨b,n,g,u,⟨I,T⟩,p,aD.and q z⟩
theorem jS.fr {q:TypeId} {base:Nat} {w:World} {v:Value} {ns:List Bt} (h:jS q base w v ns):bH (Fr base w) w v ns:=by
 obtain ⟨d,m⟩:=h;rcases d.2 with ⟨rfl,n⟩ | ⟨g,b,p,rfl,l,e,c,a,o,i⟩
 ·have k:ns=[]:=Aw.1 n
  subst k;exact bH.nil _ _
 ·refine ⟨_,b,rfl,c,a,fun j s f=>⟨g,0,rfl,⟨l,Aa e,_,_,e⟩,?_,m s (Ao f)⟩⟩
  have:=d.cells (g:=g) rfl j (.string s) (by rw [Be,f];rfl)
  rw [Bs] at this;exact this
theorem iE.fr {E:TypeId} {d base:Nat} {X:Option Nat} {w:World} {v:Value} {A:List NC} (h:iE E d base X w v A) (C:∀x,x ∈ A→aD d (oA w) w x.1 x.2):cE (aD d (Fr base w) w) (Fr base w) w v (aG A):=by
 obtain ⟨n,J,o⟩:=h;have F:(aG A).length=A.length:=by simp [aG]
 have t:∀y,y ∈ A→y.1.length=6:=fun y I=>(o y I).len
 rcases n.2 with ⟨rfl,l⟩ | ⟨g,m,B,rfl,c,p,r,k,z,G⟩
 ·have s:A=[]:=Aw.1 l
  subst s;exact cE.nil _ _ _
 ·refine ⟨_,m,by rw [F],by omega,k,fun j x i=>?_⟩
  have a:j<A.length:=by
   rcases Cf j A.length with q | q
   ·exact q
   ·rw [Cb (by omega)] at i;cases i
  have e:A[j]?=some (A[j].1,A[j].2):=by rw [Ac a]
  have H:x=A[j].2:=by
   rw [aG,Be,e] at i;exact (Ab i).symm
  subst H;refine ⟨g,0,A[j].1,rfl,⟨c,Aa p,_,_,p⟩,fun f u D=>?_,((o _ (Du a)).and (C _ (Du a))).mono fun b c=>⟨c.1.1,c.1.2.1,c.2⟩⟩
  have:=n.cells (g:=g) rfl _ _ (jX t e f u D);rw [Bs,←Nat.add_assoc] at this;exact this
theorem CE {w w':World} (h:w.grownBy w' none):Below w.heap.size w w':=⟨h.os,h.tape,h.output,h.size,fun i a=>h.block i a (by simp)⟩
def aIq (w:World) (ns:List Bt) (e:Ending) (w':World):Prop:=∃v,e=.returned v∧bH (Fr w.heap.size w') w' v ns∧v.oneCell'=true∧Below w.heap.size w w'∧jS 9 w.heap.size w' v ns
theorem bH.one {S:Nat→Prop} {w:World} {v:Value} {ns:List Bt} (h:bH S w v ns):v.oneCell'=true:=by
 obtain ⟨a,c,rfl,_⟩:=h;rfl
theorem bH.sizes {S:Nat→Prop} {w:World} {v:Value} {ns:List Bt} (h:bH S w v ns):∀s,s ∈ ns→s.size≤maxLen - 2:=by
 intro s d;obtain ⟨j,b,rfl⟩:=List.getElem_of_mem d;obtain ⟨a,c,_,_,_,h⟩:=h;obtain ⟨_,_,_,_,_,h⟩:=h j _ (Ac b);exact h
theorem BT {S:Nat→Prop} (v:Value) (ns:List Bt) (w:World) (h:bH S w v ns) (l:ns.length≤1000000):Calls prog 83 #[v] w (aIq w ns):=by
 obtain ⟨n,d,i,e,j⟩:=rD;have f:=underlying25;have m:=Hh d;have H:=Hh h;have g:=Hh h.sizes;clear h d
 go_enter func83,ntmps83
 go_wp2_with (refine lS _ rfl (.const (Sn)) (.tmp 3) 25 rfl 9 n f m.o i e j rfl v ns rfl H.o l ?_;intro k w' c b)
 go_ret
 have a:jS 9 w.heap.size w' k ns:=⟨c,g.o⟩;exact ⟨k,rfl,a.fr,a.strs.one,CE b,a⟩
def oB (d:Nat) (w:World) (x:ND) (e:Ending) (w':World):Prop:=∃a,e=.returned (.agg a.toArray)∧aD d (Fr w.heap.size w') w' a x∧Below w.heap.size w w'
def CR (d:Nat) (w:World) (its:List ND) (e:Ending) (w':World):Prop:=∃v,e=.returned v∧cE (aD d (Fr w.heap.size w') w') (Fr w.heap.size w') w' v its∧Below w.heap.size w w'
theorem nG {its:List ND} {j:Nat} {x:ND} (h:its[j]?=some x):its.take (j+1)=its.take j++[x]:=by rw [Bf,h];rfl
theorem dT {b:Type} {l:List b} {j:Nat} {x:b} (h:l[j]?=some x):j<l.length:=by
 rcases Cf j l.length with a | a
 ·exact a
 ·rw [Cb a] at h;cases h
theorem aD.slices {d:Nat} {S:Nat→Prop} {w:World} {b:Vl} {x:ND} (h:aD d S w b x):∃a f c1 c e c2,b=[Iz x.kind,.bool x.bool,Iz x.num,.string x.text,.slice a f c1,.slice c e c2]:=by
 cases d with
 | zero=>exact h.elim
 | succ d=>
  obtain ⟨i,g,rfl,_,⟨a,c1,rfl,_⟩,⟨c,c2,rfl,_⟩⟩:=h;exact ⟨_,_,_,_,_,_,rfl⟩
theorem cE.at {d:Nat} {S:Nat→Prop} {w:World} {n:Option Addr} {l c:Nat} {its:List ND} (h:cE (aD d S w) S w (.slice n l c) its) {j:Nat} (q:j<its.length) :
 l=its.length∧l≤c∧c≤maxLen∧∃b a x i k c1 m g c2,n=some ⟨b,a,none⟩∧S b∧its[j]?=some x∧aD d S w [Iz x.kind,.bool x.bool,Iz x.num,.string x.text,.slice i k c1,.slice m g c2] x ∧
  w.cell? ⟨b,a+j * 6,none⟩=some (Iz x.kind)∧w.cell? ⟨b,a+j * 6+1,none⟩=some (.bool x.bool)∧w.cell? ⟨b,a+j * 6+2,none⟩=some (Iz x.num)∧w.cell? ⟨b,a+j * 6+3,none⟩=some (.string x.text)∧w.cell? ⟨b,a+j * 6+4,none⟩=some (.slice i k c1)∧w.cell? ⟨b,a+j * 6+5,none⟩=some (.slice m g c2):=by
 obtain ⟨s,o,e,r,v,u⟩:=h;cases e;obtain ⟨b,a,y,rfl,t,f,p⟩:=u j _ (Ac q);obtain ⟨i,k,c1,m,g,c2,rfl⟩:=p.slices;exact ⟨rfl,r,v,b,a,its[j],i,k,c1,m,g,c2,rfl,t,Ac q,p,f 0 _ rfl,f 1 _ rfl,f 2 _ rfl,f 3 _ rfl,f 4 _ rfl,f 5 _ rfl⟩
theorem Below.grown {w w':World} (a:Below w.heap.size w w'):w.grownBy w' none:=⟨a.os,a.tape,a.output,a.size,fun i b _=>a.block i b⟩
theorem iE.plain {i:TypeId} {d base:Nat} {X:Option Nat} {w w':World} {v:Value} {A:List NC} {row:Option Nat} (h:iE i d base X w v A) (l:∀x,x ∈ A→aD d (oA w) w x.1 x.2) (g:w.grownBy w' row) (c:∀r,row=some r→r<base∨v.ownBlock=some r):∀x,x ∈ A→aD d (oA w') w' x.1 x.2:=by
 intro x f;have e:∀b,(base≤b∧b<w.heap.size∧v.ownBlock ≠ some b∧X ≠ some b)→w'.heap[b]?=w.heap[b]?:=fun b a=>g.block b a.2.1 fun e=>by
  rcases c b e.symm with c | c
  ·omega
  ·exact a.2.2.1 c
 exact ((((h.2.2 x f).and (l x f)).same (w':=w') fun b a=>e b a.1)).mono fun b a=>by
  obtain ⟨j,T,k⟩:=a.2;exact ⟨j,T,(e b a.1).trans k⟩
theorem xI {d:Nat} (HC:∀ (S:Nat→Prop) (cs:Vl) (x:ND) (w:World),aD d S w cs x→(∀b,S b→b<w.heap.size)→jZ d x→Calls prog 57 #[.agg cs.toArray] w (oB d w x))
 (S:Nat→Prop) (v:Value) (its:List ND) (w:World) (h:cE (aD d S w) S w v its) (hS:∀b,S b→b<w.heap.size) (hl:its.length≤1000000) (g:∀y,y ∈ its→jZ d y):Calls prog 84 #[v] w (CR d w its):=by
 obtain ⟨ip,Q,xn,xk,xf⟩:=rE;have xh:=underlying26;have HI:=Hh Q;obtain ⟨ao,R,rfl,xg,X,Y⟩:=h;have H:Hid (cE (aD d S w) S w (.slice ao its.length R) its):=Hh ⟨ao,R,rfl,xg,X,Y⟩;have xl:=Hh HC;have HL:=Hh g;have HS:=Hh hS;unfold maxLen at X;clear Q Y HC g hS
 go_enter func84,ntmps84
 go_wp2
 go_loopw [3,8] (fun vi i wr=>∃ (j:Nat) (A:List NC),i=Iz j∧j≤its.length∧iE 28 d w.heap.size none wr vi A∧aG A=its.take j∧Below w.heap.size w wr∧(∀x,x ∈ A→aD d (oA wr) wr x.1 x.2)) (fun _ i _=>its.length - (intOf i).toNat)
 case atStart=>exact ⟨0,[],rfl,Av _,iE.nil _ _ _ _ _,rfl,Br _ _,fun x W=>by cases W⟩
 case round=>
  obtain ⟨j,A,rfl,hj,m,hA,t,L⟩:=hrel
  by_cases xd:j<its.length
  ·have xc:(j:Int)<(its.length:Int):=by omega
   have xq:(0:Int)≤(j:Int):=by omega
   obtain ⟨-,-,-,b,s,x,a1,l1,c1,a2,l2,c2,rfl,xm,W,U,k0,k1,k2,k3,k4,k5⟩:=H.o.at xd;have q:=HS.o b xm;have q0:=(t.cell (p:=⟨b,s+j * 6,none⟩) q).trans k0;have q1:=(t.cell (p:=⟨b,s+j * 6+1,none⟩) q).trans k1;have q2:=(t.cell (p:=⟨b,s+j * 6+2,none⟩) q).trans k2;have q3:=(t.cell (p:=⟨b,s+j * 6+3,none⟩) q).trans k3;have q4:=(t.cell (p:=⟨b,s+j * 6+4,none⟩) q).trans k4;have q5:=(t.cell (p:=⟨b,s+j * 6+5,none⟩) q).trans k5;clear k0 k1 k2 k3 k4 k5;have HX:=Hh W;have HA:=Hh hA;have xi:A.length=j:=by
    have:=Ad List.length hA;rw [aG,Bk,Bc] at this;omega
   have xo:A.length<1000000:=by omega
   clear xi;have g:=HL.o x (Ao W);have P:=(Br wr.heap.size wr).alloc (o:=.cells #[Iz x.kind,.bool x.bool,Iz x.num,.string x.text,.slice a1 l1 c1,.slice a2 l2 c2] 28) (Lr _);have G:=U.same (w':=wr.alloc (.cells #[Iz x.kind,.bool x.bool,Iz x.num,.string x.text,.slice a1 l1 c1,.slice a2 l2 c2] 28)) fun b k=>((t.trans (P.mono t.size)).block b (HS.o b k))
   have a:=m.below P;have u:=iE.plain m L (Below.grown P) (fun r e=>by cases e)
   have n:=t.trans (P.mono t.size);have CC:=Hh (xl.o S _ x _ G (fun b k=>Ll (HS.o b k) n.size) g)
   clear W hA U G m t P g L
   go_upto_region 5 with fail
   clear q0 q1 q2 q3 q4 q5;generalize hW:wr.alloc (.cells #[Iz x.kind,.bool x.bool,Iz x.num,.string x.text,.slice a1 l1 c1,.slice a2 l2 c2] 28)=W1 at a n CC u ⊢;have O:W1.heap[wr.heap.size]?=some (.cells #[Iz x.kind,.bool x.bool,Iz x.num,.string x.text,.slice a1 l1 c1,.slice a2 l2 c2] 28 (0,0)):=by rw [←hW];exact Hn _ _
   have xj:=aA O;clear hW O
   go_upto_region 6 with (first
    | (go_at_call 57;(with_reducible refine (CC.o).mono ?_);rintro e N ⟨cs,rfl,z,C⟩;obtain ⟨a3,l3,c3,a4,l4,c4,rfl⟩:=z.slices;(have l:=a.below C);(have F:=iE.plain a u (Below.grown C) (fun r e=>by cases e));(have M:=n.trans (C.mono n.size));(have D:=(Br N.heap.size N).alloc (o:=.cells #[Iz x.kind,.bool x.bool,Iz x.num,.string x.text,.slice a3 l3 c3,.slice a4 l4 c4] 28) (Lr _));(have f:=l.below D);(have E:=iE.plain l F (Below.grown D) (fun r e=>by cases e));(have B:=M.trans (D.mono M.size));(have xa:=(z.same (w':=N.alloc (.cells #[Iz x.kind,.bool x.bool,Iz x.num,.string x.text,.slice a3 l3 c3,.slice a4 l4 c4] 28)) fun b k=>D.block b k.2.1));(have J:=z.one))
    | (refine Ay _ rfl (.tmp 12) (.tmp 15) 26 rfl w.heap.size 28 ip (.agg Z6) 6 88 xh HI.o xn xk xf rfl (by decide) u3 A.length _ rfl f.1 ⟨N.heap.size,0,none⟩ 1 1 [Iz x.kind,.bool x.bool,Iz x.num,.string x.text,.slice a3 l3 c3,.slice a4 l4 c4] rfl rfl (cX _ _ _ _ rfl) J (by decide) (by unfold maxLen;omega) (by omega) B.size _ rfl ?_;intro g8 c8 W8 I c V xp;clear l M F))
   have K:=f.push I c (fV V) (fun b e=>by cases e) (xa.mono fun b k=>⟨Af n.size k.1,Ll k.2.1 D.size,GX a.1 k.1,by simp⟩)
   have xb:∀y,y ∈ A++[([Iz x.kind,.bool x.bool,Iz x.num,.string x.text,.slice a3 l3 c3,.slice a4 l4 c4],x)]→aD d (oA W8) W8 y.1 y.2:=by
    intro y Z;rcases Bg.1 Z with Z | Z
    ·exact iE.plain f E c (fun r e=>.inr e) y Z
    ·cases At.1 Z
     have e8:∀b,Fr W1.heap.size N b→W8.heap[b]?=N.heap[b]?:=fun b k=>(c.block b (Ll k.2.1 D.size) (fun e=>GX a.1 k.1 e.symm)).trans (D.block b k.2.1)
     exact (z.same e8).mono fun b k=>(k.move (base':=0) (e8 b k) (Av _) (Af D.size c.size)).2.2
   have xe:=iG B f.1 c B.size;clear f I c V a n B xa z C D J xj CC u E
   go_wp2
   go_roundw
   case rel=>
    refine ⟨j+1,_,by go_num,by omega,K,?_,xe,xb⟩
    rw [nG HX.o,←HA.o];simp [aG]
   case measure=>simp [intOf];omega
  ·have xc:¬ (j:Int)<(its.length:Int):=by omega
   have T:j=its.length:=by omega
   have HA:=Hh hA;have HJ:=Hh T;clear hA T
   go_wp2
   go_ret
   refine ⟨_,rfl,?_,t⟩;have:=m.fr L;rw [HA.o,HJ.o,List.take_length] at this;exact this
theorem TE {d:Nat} (HC:∀ (S:Nat→Prop) (v:Value) (its:List ND) (w:World),cE (aD d S w) S w v its→(∀b,S b→b<w.heap.size)→its.length≤1000000→(∀y,y ∈ its→jZ d y)→Calls prog 84 #[v] w (CR d w its))
 (S:Nat→Prop) (cs:Vl) (x:ND) (w:World) (h:aD (d+1) S w cs x) (hS:∀b,S b→b<w.heap.size) (F:jZ (d+1) x):Calls prog 57 #[.agg cs.toArray] w (oB (d+1) w x):=by
 obtain ⟨a1,l1,c1,a2,l2,c2,rfl⟩:=h.slices;obtain ⟨vn,vi,e,ht,xi,xj⟩:=h;simp only [Bu,Dd,Dj] at e;obtain ⟨rfl,rfl⟩:=e;obtain ⟨L,C⟩:∃W,W=(w.alloc (.cells #[Iz x.kind,.bool x.bool,Iz x.num,.string x.text,.slice a1 l1 c1,.slice a2 l2 c2] 28)).alloc (.cells Z6 28):=⟨_,rfl⟩;have hz:(w.alloc (.cells #[Iz x.kind,.bool x.bool,Iz x.num,.string x.text,.slice a1 l1 c1,.slice a2 l2 c2] 28)).heap.size=w.heap.size+1:=by simp
 have b1:Below w.heap.size w L:=by rw [C];exact ((Br _ _).alloc (Lr _) _).alloc (by simp) _
 have Z:L.heap[w.heap.size+1]?=some (.cells Z6 28 (0,0)):=by rw [C,←hz];exact Hn _ _
 have H:L.heap[w.heap.size]?=some (.cells #[Iz x.kind,.bool x.bool,Iz x.num,.string x.text,.slice a1 l1 c1,.slice a2 l2 c2] 28 (0,0)):=by rw [C];exact (Bj _ _ _ (by omega)).trans (Hn _ _)
 have O:=xi.same (w':=L) fun b a=>b1.block b (hS b a)
 have CT:=Hh (BT _ _ L O F.1);have xk:=Hh HC;have HL:=Hh F;have HS:=Hh hS;have xh:=Hh xj;have cb:=aA H;have fb:=aE H;have HR:=Hh Z;have HB:=Hh H;have xs:w.heap.size+1<L.heap.size:=Aa Z;clear HC F hS xi xj O Z H hz
 go_enter func57,ntmps57
 go_upto_region 1 with fail
 rw [←C];clear C
 go_upto_region 2 with ((with_reducible refine (CT.o).mono ?_);rintro e r ⟨v1,rfl,J,xd,k,-⟩;obtain ⟨z,c3,rfl,N⟩:=J;(have s:=(k.block _ (Aa HB.o)).trans HB.o);(have f2:=aE s);(have xq:=aA s);clear s)
 have J:bH (Fr L.heap.size r) r (.slice z x.names.length c3) x.names:=⟨z,c3,rfl,N⟩;have s:=(k.block _ (Aa HB.o)).trans HB.o;have K:=lW s (.slice z x.names.length c3);have xc:=(k.block _ (Aa HR.o)).trans HR.o;have c:∀b,b ≠ w.heap.size→(r.setCell ⟨w.heap.size,4,none⟩ (.slice z x.names.length c3)).heap[b]?=r.heap[b]?:=fun b a=>heap_setCell_other r ⟨w.heap.size,4,none⟩ b _ a
 have xe:(r.setCell ⟨w.heap.size,4,none⟩ (.slice z x.names.length c3)).heap.size=r.heap.size:=by simp
 have Q:=(c (w.heap.size+1) (by omega)).trans xc
 have V:=J.same fun b a=>c b (by have:=a.1;omega)
 have f:∀b,S b→(r.setCell ⟨w.heap.size,4,none⟩ (.slice z x.names.length c3)).heap[b]?=w.heap[b]?:=fun b a=>(c b (by have:=HS.o b a;omega)).trans ((k.block b (by have:=HS.o b a;omega)).trans (b1.block b (HS.o b a)))
 have D:=xh.o.same f fun cs y q=>q.same f
 have B3:Below w.heap.size w (r.setCell ⟨w.heap.size,4,none⟩ (.slice z x.names.length c3)):=(b1.trans (k.mono b1.size)).setCell (Lr _) _;obtain ⟨w3,G⟩:∃W,W=r.setCell ⟨w.heap.size,4,none⟩ (.slice z x.names.length c3):=⟨_,rfl⟩;rw [←G] at K xe Q V f D B3;have E:∀b,b ≠ w.heap.size→w3.heap[b]?=r.heap[b]?:=by rw [G];exact c
 rw [←G];have CI:=Hh (xk.o _ _ _ w3 D (fun b a=>by have:=HS.o b a;have:=k.size;omega) HL.o.2.1 HL.o.2.2)
 have xw:=aA K;have HK:=Hh K;have P:=Hh Q;have xt:=k.size;clear c D K s xc Q G f J N f2 xq cb fb xd HR HB CT xk xh b1 k
 go_upto_region 3 with ((with_reducible refine (CI.o).mono ?_);rintro e g ⟨v2,rfl,I,j⟩;obtain ⟨m,n,rfl,M⟩:=I;(have u:=(j.block _ (Aa HK.o)).trans HK.o);(have f4:=aE u);(have xp:=aA u);clear u)
 have I:cE (aD d (Fr w3.heap.size g) g) (Fr w3.heap.size g) g (.slice m x.items.length n) x.items:=⟨m,n,rfl,M⟩;have u:=(j.block _ (Aa HK.o)).trans HK.o;have Y:=kO u (.slice m x.items.length n);have xa:=(j.block _ (Aa P.o)).trans P.o;have c:∀b,b ≠ w.heap.size→(g.setCell ⟨w.heap.size,5,none⟩ (.slice m x.items.length n)).heap[b]?=g.heap[b]?:=fun b a=>heap_setCell_other g ⟨w.heap.size,5,none⟩ b _ a
 have xb:(g.setCell ⟨w.heap.size,5,none⟩ (.slice m x.items.length n)).heap.size=g.heap.size:=by simp
 have A:=(c (w.heap.size+1) (by omega)).trans xa
 have xr:=j.size;have T:=(V.same fun b a=>j.block b (by have:=a.2.1;omega)).same fun b a=>c b (by have:=a.1;omega)
 have B:∀b,Fr L.heap.size r b→(g.setCell ⟨w.heap.size,5,none⟩ (.slice m x.items.length n)).heap[b]?=r.heap[b]?:=fun b a=>(c b (by have:=a.1;omega)).trans ((j.block b (by have:=a.2.1;omega)).trans (E b (by have:=a.1;omega)))
 have l:∀b,Fr w3.heap.size g b→(g.setCell ⟨w.heap.size,5,none⟩ (.slice m x.items.length n)).heap[b]?=g.heap[b]?:=fun b a=>c b (by have:=a.1;omega)
 have X:=I.same (w':=g.setCell ⟨w.heap.size,5,none⟩ (.slice m x.items.length n)) (R':=aD d (Fr w3.heap.size g) (g.setCell ⟨w.heap.size,5,none⟩ (.slice m x.items.length n))) (fun b a=>l b a) fun cs y q=>q.same fun b a=>l b a
 have B5:Below w.heap.size w (g.setCell ⟨w.heap.size,5,none⟩ (.slice m x.items.length n)):=(B3.trans (j.mono B3.size)).setCell (Lr _) _;obtain ⟨w5,R⟩:∃W,W=g.setCell ⟨w.heap.size,5,none⟩ (.slice m x.items.length n):=⟨_,rfl⟩;rw [←R] at Y xb A T X B5 B l;rw [←R];have xv:=aA Y;have f5:=aE A;have d5:=aA A;have xx:¬w.heap.size+1=w.heap.size:=by omega
 have xu:¬w.heap.size=w.heap.size+1:=by omega
 have xn:=Hh A;have xl:=Hh T;have xm:=Hh X;have xo:=Hh B;have xg:=Hh l;clear c u Y xa A R I M f4 xp CI HK P j V T X E B l
 go_wp2
 have xf:=dG xn.o (Iz x.kind) (.bool x.bool) (Iz x.num) (.string x.text) (.slice z x.names.length c3) (.slice m x.items.length n);have t:=aO w5 (w.heap.size+1) (Iz x.kind) (.bool x.bool) (Iz x.num) (.string x.text) (.slice z x.names.length c3) (.slice m x.items.length n);have p:∀b,b ≠ w.heap.size+1→b<w5.heap.size→(dJ w5 (w.heap.size+1) (Iz x.kind) (.bool x.bool) (Iz x.num) (.string x.text) (.slice z x.names.length c3) (.slice m x.items.length n)).heap[b]?=w5.heap[b]?:=fun b a hl=>t.block b hl (by intro e;exact a (Ab e))
 have U:=t.size;refine Au (v:=.agg #[Iz x.kind,.bool x.bool,Iz x.num,.string x.text,.slice z x.names.length c3,.slice m x.items.length n]) ?_ ?_ ?_;rotate_left
 ·rfl
 ·refine ⟨[Iz x.kind,.bool x.bool,Iz x.num,.string x.text,.slice z x.names.length c3,.slice m x.items.length n],rfl,⟨_,_,rfl,ht,?_,?_⟩,?_⟩
  ·exact (xl.o.same fun b a=>p b (by have:=a.1;omega) (by have:=a.2.1;omega)).mono fun b a=>a.move ((p b (by have:=a.1;omega) (by have:=a.2.1;omega)).trans (xo.o b a)) (by omega) (Af (by omega) U)
  ·exact (xm.o.same (fun b a=>p b (by have:=a.1;omega) (by have:=a.2.1;omega)) fun cs y q=>q.same fun b a=>p b (by have:=a.1;omega) (by have:=a.2.1;omega)).mono (fun b a=>a.move ((p b (by have:=a.1;omega) (by have:=a.2.1;omega)).trans (xg.o b a)) (by omega) (Af (by omega) U)) fun cs y q=>q.mono fun b a=>a.move ((p b (by have:=a.1;omega) (by have:=a.2.1;omega)).trans (xg.o b a)) (by omega) (Af (by omega) U)
  ·exact ⟨t.os.trans B5.os,t.tape.trans B5.tape,t.output.trans B5.output,Af B5.size t.size,fun i hi=>(p i (by omega) (by omega)).trans (B5.block i hi)⟩
 ·obtain ⟨q0,q1,q2,q3,q4,q5⟩:=aA xf
  simp only [dJ] at q0 q1 q2 q3 q4 q5;simp [results,results57,go_sem,q0,q1,q2,q3,q4,q5]
theorem vT:∀ (d:Nat) (S:Nat→Prop) (a:Vl) (x:ND) (w:World),aD d S w a x→(∀b,S b→b<w.heap.size)→jZ d x→Calls prog 57 #[.agg a.toArray] w (oB d w x)
 | 0,S,a,x,w,h,_,_=>h.elim
 | d+1,S,a,x,w,h,e,f=>TE (fun S v its w h e f c=>xI (fun S a x w h e f=>vT d S a x w h e f) S v its w h e f c) S a x w h e f
theorem TC (d:Nat) (S:Nat→Prop) (v:Value) (its:List ND) (w:World) (h:cE (aD d S w) S w v its) (c:∀b,S b→b<w.heap.size) (e:its.length≤1000000) (a:∀y,y ∈ its→jZ d y):Calls prog 84 #[v] w (CR d w its):=
 xI (fun S f x w h c e=>vT d S f x w h c e) S v its w h c e a
section
variable {w:World} {g:Nat} {T:Nat} {a b c d:Value}
theorem nT (h:w.heap[g]?=some (.cells #[a,b,c,d] T (0,0))):w.cell? ⟨g,0,none⟩=some a∧w.cell? ⟨g,1,none⟩=some b∧w.cell? ⟨g,2,none⟩=some c∧w.cell? ⟨g,3,none⟩=some d:=by
 simp [World.cell?,h]
theorem ZI (h:w.heap[g]?=some (.cells #[a,b,c,d] T (0,0))):w.frozen? ⟨g,0,none⟩=false∧w.frozen? ⟨g,1,none⟩=false∧w.frozen? ⟨g,2,none⟩=false∧w.frozen? ⟨g,3,none⟩=false:=by
 simp [World.frozen?,h]
def QA (w:World) (g:Nat) (a b c d:Value):World:=(((w.setCell ⟨g,0,none⟩ a).setCell ⟨g,1,none⟩ b).setCell ⟨g,2,none⟩ c).setCell ⟨g,3,none⟩ d
theorem tQ (h:w.heap[g]?=some (.cells #[a,b,c,d] T (0,0))) (e f i j:Value):(QA w g e f i j).heap[g]?=some (.cells #[e,f,i,j] T (0,0)):=by
 have m:(w.setCell ⟨g,0,none⟩ e).heap[g]?=some (.cells #[e,b,c,d] T (0,0)):=dX h e;have k:((w.setCell ⟨g,0,none⟩ e).setCell ⟨g,1,none⟩ f).heap[g]?=some (.cells #[e,f,c,d] T (0,0)):=dX m f;have l:(((w.setCell ⟨g,0,none⟩ e).setCell ⟨g,1,none⟩ f).setCell ⟨g,2,none⟩ i).heap[g]?=some (.cells #[e,f,i,d] T (0,0)):=dX k i;exact dX l j
theorem SD (w:World) (g:Nat) (a b c d:Value):w.grownBy (QA w g a b c d) (some g):=
 aJ (aJ (aJ (aV w g 0 a) (aV _ g 1 b)) (aV _ g 2 c)) (aV _ g 3 d)
end
theorem OP.all {w:World} {g:Nat} (h:OP w g):(w.cell? ⟨g,0,none⟩=(foC 0)[0]?∧w.cell? ⟨g,1,none⟩=(foC 0)[1]?∧w.cell? ⟨g,2,none⟩=(foC 0)[2]?∧w.cell? ⟨g,3,none⟩=(foC 0)[3]?)∧(w.cell? ⟨g,4,none⟩=(foC 1)[0]?∧w.cell? ⟨g,5,none⟩=(foC 1)[1]?∧w.cell? ⟨g,6,none⟩=(foC 1)[2]?∧w.cell? ⟨g,7,none⟩=(foC 1)[3]?)∧(w.cell? ⟨g,8,none⟩=(foC 2)[0]?∧w.cell? ⟨g,9,none⟩=(foC 2)[1]?∧w.cell? ⟨g,10,none⟩=(foC 2)[2]?∧w.cell? ⟨g,11,none⟩=(foC 2)[3]?):=
 ⟨⟨h.at 0 0 (by decide) (by decide),h.at 0 1 (by decide) (by decide),h.at 0 2 (by decide) (by decide),h.at 0 3 (by decide) (by decide)⟩,⟨h.at 1 0 (by decide) (by decide),h.at 1 1 (by decide) (by decide),h.at 1 2 (by decide) (by decide),h.at 1 3 (by decide) (by decide)⟩,⟨h.at 2 0 (by decide) (by decide),h.at 2 1 (by decide) (by decide),h.at 2 2 (by decide) (by decide),h.at 2 3 (by decide) (by decide)⟩⟩
def foB (k:Int):Bool:=if k=1 then true else if k=2 then true else if k=3 then true else false
theorem nC {k:Int} (h:k<1∨3<k):foR k=[Iz 0,.nilFunc,.nilFunc,.nilFunc]∧foB k=false:=by
 unfold foR foB;exact ⟨by rw [Ae (by omega),Ae (by omega),Ae (by omega)],by rw [Ae (by omega),Ae (by omega),Ae (by omega)]⟩
theorem tR (k:Int) (w:World):Calls prog 82 #[Iz k] w fun e w'=>e=.returned (.tuple #[.agg (foR k).toArray,.bool (foB k)])∧Below w.heap.size w w':=by
 have Z:=Hh (fun A:World=>LJ A)
 have X:=Hh (fun (g b:Nat) (A:World) (h:OP A g) (hc:A.cell? ⟨b,0,none⟩=some (Iz k)) (hb:b<A.heap.size)=>aDw k g b A h hc hb)
 have Q:=(Br w.heap.size w).alloc (o:=.cells #[Iz k] 3) (Lr _);have N:=Hn w (.cells #[Iz k] 3);have T:(w.alloc (.cells #[Iz k] 3)).heap.size=w.heap.size+1:=by simp
 go_enter func82,ntmps82
 go_upto_region 1 with fail
 generalize w.alloc _=P at Q N T ⊢;have M:=(Br P.heap.size P).alloc (o:=.cells #[Iz 0,.nilFunc,.nilFunc,.nilFunc] 119) (Lr _);have F:=Hn P (.cells #[Iz 0,.nilFunc,.nilFunc,.nilFunc] 119);rw [T] at F;generalize P.alloc _=C at M F ⊢;have K:=Aa N;have x:Below w.heap.size w C:=Q.trans (M.mono Q.size);have z:=(M.block _ K).trans N;clear Q N T M K
 go_upto_region 2 with ((with_reducible refine (Z.o _).mono ?_);rintro e U ⟨rfl,rfl⟩)
 generalize Y:C.alloc _=U;obtain ⟨I,O⟩:=Al Y;clear Y;have t:=Aa z;have B:=Aa F;have i:U.cell? ⟨w.heap.size,0,none⟩=some (Iz k):=aL ((I.block _ t).trans z) (j:=0) rfl;have G:=Hh (X.o C.heap.size w.heap.size U O i (Ll t I.size));have y:=x.trans (I.mono x.size);have u:=(I.block _ B).trans F;clear X Z i I z x t
 go_upto_region 3 with ((with_reducible refine (G.o).mono ?_);rintro e S ⟨rfl,s⟩)
 have r:=(s.block _ (Aa u)).trans u;have f:OP S C.heap.size:=(s.block _ (Aa O)).trans O;have V:=Hh (y.trans (s.mono y.size));have L:=Hh r;have f1:=ZI r;have c1:=nT r;generalize C.heap.size=gt at f ⊢;clear O u F B y s G r;have n:Hid (∀a b c d:Value,Below w.heap.size w (QA S (w.heap.size+1) a b c d)):=Hh fun a b c d=>V.o.grown (SD S (w.heap.size+1) a b c d) V.o.size (fun k R=>by cases R;exact Nat.le_succ _)
 generalize w.heap.size+1=g2 at L f1 c1 n ⊢;rcases ZK k with ⟨rfl,m⟩ | ⟨rfl,m⟩ | ⟨rfl,m⟩ | ⟨R,m⟩;rotate_right
 ·rw [m]
  have W:=Hh (nC R);clear m R f
  go_wp2
  refine Au (v:=.tuple #[.agg #[Iz 0,.nilFunc,.nilFunc,.nilFunc],.bool false]) ?_ ?_ ?_;rotate_left
  ·rfl
  ·exact ⟨by rw [W.o.1,W.o.2],n.o _ _ _ _⟩
  ·obtain ⟨q,i,p,l⟩:=nT (tQ L.o (Iz 0) .nilFunc .nilFunc .nilFunc)
   simp only [QA] at q i p l;simp [results,results82,go_sem,q,i,p,l]
 ·rw [m]
  obtain ⟨⟨J,D,H,E⟩,-,-⟩:=f.all;simp [foC] at J D H E;clear m f
  go_wp2
  refine Au (v:=.tuple #[.agg (foC 0).toArray,.bool true]) ?_ ?_ ?_;rotate_left
  ·rfl
  ·exact ⟨rfl,n.o _ _ _ _⟩
  ·obtain ⟨q,i,p,l⟩:=nT (tQ L.o (Iz 1) (.func (.func 126) #[] #[]) (.func (.func 127) #[] #[]) (.func (.func 128) #[] #[]))
   simp only [QA] at q i p l;simp [results,results82,go_sem,q,i,p,l,foC]
 ·rw [m]
  obtain ⟨-,⟨J,D,H,E⟩,-⟩:=f.all;simp [foC] at J D H E;clear m f
  go_wp2
  refine Au (v:=.tuple #[.agg (foC 1).toArray,.bool true]) ?_ ?_ ?_;rotate_left
  ·rfl
  ·exact ⟨rfl,n.o _ _ _ _⟩
  ·obtain ⟨q,i,p,l⟩:=nT (tQ L.o (Iz 2) (.func (.func 129) #[] #[]) (.func (.func 130) #[] #[]) (.func (.func 131) #[] #[]))
   simp only [QA] at q i p l;simp [results,results82,go_sem,q,i,p,l,foC]
 ·rw [m]
  obtain ⟨-,-,J,D,H,E⟩:=f.all;simp [foC] at J D H E;clear m f
  go_wp2
  refine Au (v:=.tuple #[.agg (foC 2).toArray,.bool true]) ?_ ?_ ?_;rotate_left
  ·rfl
  ·exact ⟨rfl,n.o _ _ _ _⟩
  ·obtain ⟨q,i,p,l⟩:=nT (tQ L.o (Iz 3) (.func (.func 132) #[] #[]) (.func (.func 133) #[] #[]) (.func (.func 134) #[] #[]))
   simp only [QA] at q i p l;simp [results,results82,go_sem,q,i,p,l,foC]
def xZ (S:Bt) (E:Int) (w:World) (e:Ending) (w':World):Prop:=e=.returned (.tuple #[.string S,Iz E])∧Below w.heap.size w w'
def aAk (P:ND→Int→Prop) (w:World) (e:Ending) (w':World):Prop:=∃ (c:Vl) (x:ND) (a:Int),e=.returned (.tuple #[.agg c.toArray,Iz a])∧aD 9 (fun b=>w.heap.size≤b∧b<w'.heap.size) w' c x∧Below w.heap.size w w'∧P x a
theorem BK {D:Nat} {C:Nat→Prop} (k:Int) (F z G:Nat) (i:Vl) (x:ND) (w:World) (S:Bt) (E:Int) (h:aD D C w i x) (A:F=126∨F=129∨F=132) (p:foR k=[Iz k,.func (.func F) #[] #[],.func (.func z) #[] #[],.func (.func G) #[] #[]]∧foB k=true)
 (t:∀c,Below w.heap.size w c→Calls prog F #[.agg i.toArray] c (xZ S E c)):Calls prog 45 #[Iz k,.agg i.toArray] w (xZ S E w):=by
 obtain ⟨L,N,c1,O,K,c2,rfl⟩:=h.slices;have n:=Hh (fun c:World=>tR k c)
 simp only [p.1,p.2] at n;clear h p
 go_enter func45,ntmps45
 go_upto_region 1 with fail
 generalize d:w.alloc _=H;obtain ⟨m,g⟩:=Al d;clear d
 go_upto_region 2 with ((with_reducible refine (n.o _).mono ?_);rintro e s ⟨rfl,b⟩)
 generalize d:s.alloc _=B;obtain ⟨u,r⟩:=Al d;clear d;have a:=b.trans (u.mono b.size);have M:=aA ((a.block _ (Aa g)).trans g);have y:=nT r;have j:=m.trans (a.mono m.size);have f:=Hh (t B j);have q:=Hh j;generalize s.heap.size=J at y ⊢;clear t n g r m b u a j;unfold xZ at f;rcases A with rfl | rfl | rfl <;> (
  go_wp2_with ((with_reducible refine (f.o).mono ?_);rintro e I ⟨rfl,l⟩)
  refine Au (v:=.tuple #[.string S,Iz E]) ?_ rfl ?_
  ·simp [results,results45,go_sem]
  ·exact ⟨rfl,q.o.trans (l.mono q.o.size)⟩)
theorem aEl {D:Nat} {l:Nat→Prop} (k:Int) (j:Vl) (x:ND) (w:World) (h:aD D l w j x) (d:k<1∨3<k):Calls prog 45 #[Iz k,.agg j.toArray] w (xZ ⟨#[]⟩ 2 w):=by
 obtain ⟨p,q,c1,m,n,c2,rfl⟩:=h.slices;have i:=Hh (fun r:World=>tR k r)
 simp only [(nC d).1,(nC d).2] at i;have b:=(Br w.heap.size w).alloc (o:=.cells #[Iz x.kind,.bool x.bool,Iz x.num,.string x.text,.slice p q c1,.slice m n c2] 28) (Lr _);clear h d
 go_enter func45,ntmps45
 go_upto_region 1 with fail
 generalize w.alloc _=t at b ⊢
 go_upto_region 2 with ((with_reducible refine (i.o _).mono ?_);rintro e c ⟨rfl,a⟩)
 have g:=(Br c.heap.size c).alloc (o:=.cells #[Iz 0,.nilFunc,.nilFunc,.nilFunc] 119) (Lr _);generalize c.alloc _=s at g ⊢;have f:=a.trans (g.mono a.size)
 go_wp2
 refine Au (v:=.tuple #[.string ⟨#[]⟩,Iz 2]) ?_ rfl ?_
 ·simp [results,results45,go_sem]
 ·exact ⟨rfl,b.trans (f.mono b.size)⟩
theorem BS (k:Int) (F n F3:Nat) (s:Bt) (w:World) (P:ND→Int→Prop) (hF:n=127∨n=130∨n=133) (r:foR k=[Iz k,.func (.func F) #[] #[],.func (.func n) #[] #[],.func (.func F3) #[] #[]]∧foB k=true)
 (T:∀l,Below w.heap.size w l→Calls prog n #[.string s] l (aAk P l)):Calls prog 52 #[Iz k,.string s] w (aAk P w):=by
 have H:=Hh (fun l:World=>tR k l)
 simp only [r.1,r.2] at H;clear r
 go_enter func52,ntmps52
 go_upto_region 1 with fail
 generalize m:w.alloc _=w1;obtain ⟨E,u⟩:=Al m;clear m
 go_upto_region 2 with ((with_reducible refine (H.o _).mono ?_);rintro e O ⟨rfl,h⟩)
 generalize m:O.alloc _=Y;obtain ⟨G,N⟩:=Al m;clear m;have g:=h.trans (G.mono h.size);have c:=(g.block _ (Aa u)).trans u;have f3:=nT N;have z:=E.trans (g.mono E.size);have q:=Hh (T Y z);have t:=Hh z;have j:=Hh c;have y:=G.size;have d:w.heap.size<Y.heap.size:=Aa c;have HZ:=Hh d;have W:=aE c;generalize O.heap.size=g3 at f3 ⊢;clear T H u N E h G g z c y d W;unfold aAk at q;rcases hF with rfl | rfl | rfl <;> (
  go_wp2_with ((with_reducible refine (q.o).mono ?_);rintro e w4 ⟨cs,x,U,rfl,A,f,V⟩;go_loud ((obtain ⟨C,K,c1,L,B,c2,D⟩:=A.slices);subst D;(have a:=(f.block _ (Aa j.o)).trans j.o);(have W:=aE a);(have cz:=aA a);(have HM:=Hh A);(have HP:=Hh V);(have I:=Hh a);(have p:=Hh f);clear A V a f))
  refine Au (v:=.tuple #[.agg #[Iz x.kind,.bool x.bool,Iz x.num,.string x.text,.slice C K c1,.slice L B c2],Iz U]) ?_ rfl ?_
  ·obtain ⟨Z,R,X,S,M,Q⟩:=aA (dG I.o (Iz x.kind) (.bool x.bool) (Iz x.num) (.string x.text) (.slice C K c1) (.slice L B c2))
   simp only [dJ] at Z R X S M Q;simp [results,results52,go_sem,Z,R,X,S,M,Q]
  ·have i:=aO w4 w.heap.size (Iz x.kind) (.bool x.bool) (Iz x.num) (.string x.text) (.slice C K c1) (.slice L B c2)
   have hz:=HZ.o;refine ⟨_,x,U,rfl,(HM.o.same fun b J=>i.block b J.2 (by intro e;have:=Ab e;omega)).mono fun b J=>⟨by omega,Ll J.2 i.size⟩,(t.o.trans (p.o.mono t.o.size)).grown i (t.o.trans (p.o.mono t.o.size)).size (fun k r=>by cases r;exact Lr _),HP.o⟩)
theorem aEq (k:Int) (s:Bt) (w:World) (P:ND→Int→Prop) (d:k<1∨3<k) (u:P nd0 2):Calls prog 52 #[Iz k,.string s] w (aAk P w):=by
 have l:=Hh (fun A:World=>tR k A)
 simp only [(nC d).1,(nC d).2] at l;have z:=Hh u;clear d u
 go_enter func52,ntmps52
 go_upto_region 1 with fail
 generalize t:w.alloc _=B;obtain ⟨j,f⟩:=Al t;clear t
 go_upto_region 2 with ((with_reducible refine (l.o _).mono ?_);rintro e g ⟨rfl,c⟩)
 have i:=(Br g.heap.size g).alloc (o:=.cells #[Iz 0,.nilFunc,.nilFunc,.nilFunc] 119) (Lr _);generalize g.alloc _=E at i ⊢;have b:=c.trans (i.mono c.size);have a:=(b.block _ (Aa f)).trans f;have n:=Hh (j.trans (b.mono j.size));have h:=Hh a;have D:=aE a;have C:=aA a;clear l f j c i b a
 go_wp2
 refine Au (v:=.tuple #[.agg Z6,Iz 2]) ?_ rfl ?_
 ·obtain ⟨y,q,x,r,m,p⟩:=aA (dG h.o (Iz 0) (.bool false) (Iz 0) (.string ⟨#[]⟩) (Sn) (Sn))
  simp only [dJ] at y q x r m p;simp [results,results52,go_sem,y,q,x,r,m,p]
 ·exact ⟨_,nd0,2,rfl,(cJ _ _ 0 false 0 ⟨#[]⟩ (by decide)).deeper (by decide),n.o.grown (aO _ w.heap.size (Iz 0) (.bool false) (Iz 0) (.string ⟨#[]⟩) (Sn) (Sn)) n.o.size (fun k d=>by cases d;exact Lr _),z.o⟩
end Go.Proofs.YtncdpanfefnjlaaGreatDoor