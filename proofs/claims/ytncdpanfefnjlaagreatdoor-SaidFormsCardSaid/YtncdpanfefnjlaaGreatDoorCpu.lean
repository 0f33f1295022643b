import Derived.Test.YtncdpanfefnjlaaGreatDoorCpm
import Derived.Test.YtncdpanfefnjlaaGreatDoorMyd
set_option linter.unusedVariables false
set_option linter.unusedSimpArgs false
set_option maxHeartbeats 3200000
set_option maxRecDepth 100000
namespace Go.Proofs.YtncdpanfefnjlaaGreatDoor
open Go.Proofs.Tryz
open Go Go.Maps Go.ChangeShapes Go.WideShapes Go.ChangeAt Go.RowKit
theorem CL (l:Ub) (a b:Nat):(bC l).extract a b=bC ((l.drop a).take (b - a)):=by
 apply Cr
 apply Cg.1
 rw [ByteArray.data_extract,Array.toList_extract];simp [bC,List.extract]
theorem aIo (l:Ub) (n:Nat):(bC l).extract 0 n=bC (l.take n):=by rw [CL];simp
theorem aIn (l:Ub) (n:Nat):(bC l).extract n (bC l).size=bC (l.drop n):=by
 rw [CL,bY,Ak (by simp)]
def PrC (w:World) (g m:Nat) (r:Ub):Prop:=w.heap[g]?=some (.cells #[.string (bC r),.map (some m)] 186 (0,0))∧pX w m∧m<g
theorem PrC.lt {w:World} {g m:Nat} {r:Ub} (h:PrC w g m r):g<w.heap.size:=Aa h.1
theorem PrC.below {w w':World} {g m:Nat} {r:Ub} (h:PrC w g m r) (b:Below w.heap.size w w'):PrC w' g m r:=by
 obtain ⟨a,c,d⟩:=h;exact ⟨(b.block g (Aa a)).trans a,c.same (b.block _ c.lt),d⟩
theorem PrC.kept {w w':World} {g m b:Nat} {r:Ub} (h:PrC w g m r) (a:w.grownBy w' (some b)) (i:g<b):PrC w' g m r:=by
 obtain ⟨d,c,f⟩:=h;exact ⟨cP a (by omega) d,c.same (a.block _ c.lt (by intro e;have:=Ab e;omega)),f⟩
theorem PrC.set {w:World} {g m:Nat} {r:Ub} (h:PrC w g m r) (a:Ub):PrC (w.setCell ⟨g,0,none⟩ (.string (bC a))) g m a∧w.grownBy (w.setCell ⟨g,0,none⟩ (.string (bC a))) (some g):=by
 obtain ⟨b,e,d⟩:=h;have k:=dX b (j:=0) (.string (bC a));have c:=aV w g 0 (.string (bC a));exact ⟨⟨by simpa using k,e.same (heap_setCell_other w ⟨g,0,none⟩ _ _ (by show m ≠ g;omega)),d⟩,c⟩
def JN (g m:Nat) (w:World) (v:Value) (a:Ub) (e:Ending) (w':World):Prop:=e=.returned v∧PrC w' g m a∧w.grownBy w' (some g)
theorem vS (n:Nat) {g m:Nat} {r:Ub} (w:World) (h:PrC w g m r) (j:r.length≤1000000) (q:n≤r.length):Calls prog 172 #[.pointer (some ⟨g,0,none⟩),.int .u64 (n:Int)] w (JN g m w (.tuple #[.string (bC (r.take n)),.bool true]) (r.drop n)):=by
 have l:w.cell? ⟨g,0,none⟩=some (.string (bC r)):=aL h.1 rfl;have e:w.frozen? ⟨g,0,none⟩=false:=gZ h.1;have b:=bY r;have p:IntKind.u64.wrap ((bC r).size:Int)=((bC r).size:Int):=by rw [Bi];omega
 have f:(n:Int)≤((bC r).size:Int):=by omega
 have c:¬ ((bC r).size:Int)<(n:Int):=by omega
 have k:(0:Int)≤(n:Int):=by omega
 have d:=aIo r n;have i:=aIn r n;have a:=Hh (h.set (r.drop n));clear b q h
 go_enter func172,ntmps172
 go_wp2
 go_ret2
 exact ⟨rfl,a.o.1,a.o.2⟩
theorem BU (n:Nat) {g m:Nat} {r:Ub} (w:World) (h:PrC w g m r) (e:r.length≤1000000) (q:¬n≤r.length):Calls prog 172 #[.pointer (some ⟨g,0,none⟩),.int .u64 (n:Int)] w (JN g m w (.tuple #[.string ⟨#[]⟩,.bool false]) r):=by
 have f:w.cell? ⟨g,0,none⟩=some (.string (bC r)):=aL h.1 rfl;have a:=bY r;have d:IntKind.u64.wrap ((bC r).size:Int)=((bC r).size:Int):=by rw [Bi];omega
 have c:((bC r).size:Int)<(n:Int):=by omega
 have b:=Hh h;clear a q h
 go_enter func172,ntmps172
 go_wp2
 go_ret2
 exact ⟨rfl,b.o,aK (Br _ _) (Lr _) _⟩
theorem pQ (n:Nat) {g m:Nat} {r:Ub} (w:World) (h:PrC w g m r) (W:r.length≤1000000) (q:n≤r.length) (hn:n≤8):Calls prog 196 #[.pointer (some ⟨g,0,none⟩),.int .u64 (n:Int)] w (JN g m w (.tuple #[.int .u64 (gM (r.take n):Int),.bool true]) (r.drop n)):=by
 have R:=Hh (vS n w h W q);obtain ⟨l,F⟩:∃l,l=r.take n:=⟨_,rfl⟩;have f:l.length=n:=by rw [F,Bc];omega
 obtain ⟨s,E⟩:∃s,s=bC l:=⟨_,rfl⟩;rw [←F,←E] at R;rw [←F];have v:s.size=n:=by rw [E,bY,f]
 have B:Hid (∀ (p:Nat) (h:p<s.size),l[p]?=some (s[p]'h)):=Hh fun p h=>by
  have e:l=s.data.toList:=by rw [E,gR]
  rw [e,Ac (by rw [Ah];exact h)];rfl
 have u:=Hh f;have z:(s.size:Int)=(n:Int):=by omega
 clear h F E f q
 go_enter func196,ntmps196
 go_upto_region 4 with ((with_reducible refine (R.o).mono ?_);rintro e V ⟨rfl,D,y⟩)
 have O:=Hh (Ai D y);have x:=Hh v;have Z:=Hh z;clear D y v z
 go_loopw [8,18] (fun X H wr=>∃ (j:Nat) (N:Int),H=Iz (j:Int)∧j≤n∧X=.int .u64 N∧N=(gM (l.take j):Int)∧wr=V) (fun _ H _=>n - (intOf H).toNat)
 case atStart=>exact ⟨0,0,rfl,Av _,rfl,by simp [gM],rfl⟩
 case round=>
  obtain ⟨j,N,rfl,hj,rfl,C,i⟩:=hrel
  replace i:=i.symm
  subst i
  by_cases L:j<n
  ·have c:j<s.size:=by rw [x.o];exact L
   have P:(j:Int)<(s.size:Int):=by omega
   have xa:(0:Int)≤(j:Int):=by omega
   have M:=B.o j c;obtain ⟨a,d⟩:∃a,a=s[j]'c:=⟨_,rfl⟩;rw [←d] at M;have Q:=d.symm;have k:=nX (l.take j);have A:(l.take j).length=j:=by rw [Bc];have:=u.o;omega
   rw [A] at k;have J:(256:Nat) ^ j≤256 ^ 7:=Ch (by decide) (by omega)
   have U:(256:Nat) ^ 7=72057594037927936:=by decide
   have T:IntKind.u64.wrap (a.toNat:Int)=(a.toNat:Int):=by rw [Bi];have:=a.toNat_lt;omega
   have Y:IntKind.u64.wrap (N * 256)=N * 256:=by rw [Bi];omega
   have G:bits BinOp.or IntKind.u64 (N * 256) (a.toNat:Int)=(gM (l.take (j+1)):Int):=by
    rw [C,aJp _ _ (by omega) a.toNat_lt,Bf,M]
    show _=((gM (_++[a]):Nat):Int)
    rw [FZ]
   obtain ⟨K,b⟩:∃K:Int,K=(gM (l.take (j+1)):Int):=⟨_,rfl⟩;rw [←b] at G;have I:=Hh b;clear k A J U C b M d
   go_wp2
   go_roundw
   case rel=>exact ⟨j+1,K,by go_num,by omega,rfl,I.o,by first | rfl | trivial⟩
   case measure=>simp [intOf] <;> omega
  ·have c:¬ (j:Int)<(s.size:Int):=by have:=x.o;omega
   have t:l.take j=l:=Ak (by have:=u.o;omega)
   rw [t] at C;have S:=Hh C;clear C t
   go_wp2
   go_ret2
   exact ⟨by rw [S.o];rfl,O.o.1,O.o.2⟩
theorem tX (n:Nat) {g m:Nat} {r:Ub} (w:World) (h:PrC w g m r) (k:r.length≤1000000) (q:¬n≤r.length):Calls prog 196 #[.pointer (some ⟨g,0,none⟩),.int .u64 (n:Int)] w (JN g m w (.tuple #[.int .u64 0,.bool false]) r):=by
 have i:=Hh (BU n w h k q);clear h q
 go_enter func196,ntmps196
 go_upto_region 4 with ((with_reducible refine (i.o).mono ?_);rintro e j ⟨rfl,b,c⟩)
 have d:=Hh (Ai b c);clear b c
 go_loopw [8,18] (fun l f wr=>f=Iz 0∧l=.int .u64 0∧wr=j) (fun _ f _=>0)
 case atStart=>exact ⟨rfl,rfl,rfl⟩
 case round=>
  obtain ⟨rfl,rfl,a⟩:=hrel
  replace a:=a.symm
  subst a
  go_wp2
  go_ret2
  exact ⟨rfl,d.o.1,d.o.2⟩
def uK (r:Ub) (a:Bool) (m n:Nat) (b:Ub):Prop:=∀M N t,M<8→N<18446744073709551616→r=cR M N++t→a=true∧m=M∧n=N∧b=t
theorem ZD {c:UInt8} {a:Ub} {M N:Nat} {t:Ub} (b:M<8) (h:c::a=cR M N++t):c.toNat / 32=M∧c.toNat % 32=eW N∧a=bR N (eC N)++t:=by
 have:=RZ (l:=c::a) (p:=0) rfl b (by simpa using h)
 simpa using this
def aFx (g c:Nat) (r:Ub) (w:World) (e:Ending) (w':World):Prop:=∃ (m n:Nat) (b:Bool) (a:Ub),e=.returned (.tuple #[.agg #[Iz (m:Int),.int .u64 (n:Int)],.bool b])∧PrC w' g c a∧w.grownBy w' (some g)∧m<8∧n<18446744073709551616∧a.length≤r.length∧(b=true→a.length<r.length)∧uK r b m n a
theorem mB {r a:Ub} {w d:World} {g h m n:Nat} {c:Bool} (o:PrC d g h a) (k:w.grownBy d (some g)) (f:g<w.heap.size) (l:m<8) (i:n<18446744073709551616) (p:a.length≤r.length) (e:c=true→a.length<r.length) (j:uK r c m n a) :
 aFx g h r w (.returned (.tuple #[.agg #[Iz (m:Int),.int .u64 (n:Int)],.bool c])) ((d.setCell ⟨w.heap.size,0,none⟩ (Iz (m:Int))).setCell ⟨w.heap.size,1,none⟩ (.int .u64 (n:Int))):=by
 have b:=aJ (aV d w.heap.size 0 (Iz (m:Int))) (aV _ w.heap.size 1 (.int .u64 (n:Int)));exact ⟨m,n,c,a,rfl,o.kept b f,gO k b (Lr _),l,i,p,e,j⟩
theorem IY {g mb:Nat} {r:Ub} (w:World) (h:PrC w g mb r) (hr:r.length≤1000000):Calls prog 170 #[.pointer (some ⟨g,0,none⟩)] w (aFx g mb r w):=by
 have D:=h.lt;have xf:=(Br w.heap.size w).alloc (o:=.cells #[Iz 0,.int .u64 0] 214) (Lr _);have h0:=h.below xf;have xc:=Hn w (.cells #[Iz 0,.int .u64 0] 214);have xe:=dV w (.cells #[Iz 0,.int .u64 0] 214) (some g);obtain ⟨w0,i⟩:∃W,W=w.alloc (.cells #[Iz 0,.int .u64 0] 214):=⟨_,rfl⟩;rw [←i] at h0 xc xe;have HR:=Hh xc;have HG:=Hh xe;clear h xf xc xe;cases r with
 | nil=>
  have N1:=Hh (tX 1 w0 h0 hr (by decide))
  rw [show ((1:Nat):Int)=1 from rfl] at N1
  go_enter func170,ntmps170
  go_upto_region 1 with fail
  rw [←i];clear i
  go_upto_region 2 with ((with_reducible refine (N1.o).mono ?_);rintro e w1 ⟨rfl,d,a⟩)
  have p:=cP a (by omega) HR.o
  have c1:=eJ p;have f1:=dP p;have u:=Hh (Ai d (aJ HG.o a));have I:=Hh p;clear d a p
  go_wp2
  refine Au (v:=.tuple #[.agg #[Iz 0,.int .u64 0],.bool false]) ?_ ?_ ?_;rotate_left
  ·rfl
  ·exact mB (m:=0) (n:=0) u.o.1 u.o.2 D (by decide) (by decide) (Lr _) (fun h=>by cases h) (fun M N t H y C=>by unfold cR at C;simp at C)
  ·have q:=eT I.o (Iz 0) (.int .u64 0)
   have K:=q.1;have J:=q.2;simp [results,results170,go_sem,K,J]
 | cons c r1=>
  have R:r1.length≤1000000:=by rw [Ag] at hr;omega
  have N1:=Hh (pQ 1 w0 h0 hr (by rw [Ag];omega) (by decide))
  rw [show ((1:Nat):Int)=1 from rfl,show gM ((c::r1).take 1)=c.toNat from by simp [gM],show (c::r1).drop 1=r1 from rfl] at N1
  obtain ⟨v,hv⟩:∃v,v=c.toNat % 32:=⟨_,rfl⟩;obtain ⟨m,hm⟩:∃m,m=c.toNat / 32:=⟨_,rfl⟩;have xm:(c.toNat:Int) / 32=(m:Int):=by omega
  have xi:(c.toNat:Int) % 32=(v:Int):=by omega
  have xl:(c.toNat:Int).tmod 32=(v:Int):=by rw [Int.tmod_eq_emod_of_nonneg (by omega)];exact xi
  have L:m<8:=by have:=c.toNat_lt;omega
  have xk:IntKind.i64.wrap (m:Int)=(m:Int):=Cc _ (by omega)
  have xj:v<32:=by omega
  have HF:Hid (∀M N t,M<8→N<18446744073709551616→c::r1=cR M N++t→m=M∧v=eW N∧r1=bR N (eC N)++t):=Hh fun M N t H y C=>by
   obtain ⟨O,A,s⟩:=ZD H C;exact ⟨hm.trans O,hv.trans A,s⟩
  clear hv hm h0
  by_cases xn:v<24
  ·have xg:(v:Int)<24:=by omega
   have xb:¬ (27:Int)<(v:Int):=by omega
   have b:Hid (uK (c::r1) true m v r1):=Hh fun M N t H y C=>by
    obtain ⟨O,A,s⟩:=HF.o M N t H y C;rcases eV y with ⟨h4,B,S⟩ | ⟨h4,-,-,-⟩
    ·rw [B] at s
     exact ⟨rfl,O,by omega,s⟩
    ·omega
   go_enter func170,ntmps170
   go_upto_region 1 with fail
   rw [←i];clear i
   go_upto_region 2 with ((with_reducible refine (N1.o).mono ?_);rintro e w1 ⟨rfl,d,a⟩)
   have p:=cP a (by omega) HR.o
   have c1:=eJ p;have f1:=dP p;have u:=Hh (Ai d (aJ HG.o a));have I:=Hh p;clear d a p
   go_wp2
   refine Au (v:=.tuple #[.agg #[Iz (m:Int),.int .u64 (v:Int)],.bool true]) ?_ ?_ ?_;rotate_left
   ·rfl
   ·exact mB u.o.1 u.o.2 D L (by omega) (by rw [Ag];omega) (fun _=>by rw [Ag];omega) b.o
   ·have q:=eT I.o (Iz (m:Int)) (.int .u64 (v:Int))
    have K:=q.1;have J:=q.2;simp [results,results170,go_sem,K,J]
  ·have xg:¬ (v:Int)<24:=by omega
   by_cases xo:27<v
   ·have xb:(27:Int)<(v:Int):=by omega
    have b:Hid (uK (c::r1) false 0 0 r1):=Hh fun M N t H y C=>by
     obtain ⟨-,A,s⟩:=HF.o M N t H y C;rcases eV y with ⟨h4,-,-⟩ | ⟨-,B,-,-⟩ <;> omega
    go_enter func170,ntmps170
    go_upto_region 1 with fail
    rw [←i];clear i
    go_upto_region 2 with ((with_reducible refine (N1.o).mono ?_);rintro e w1 ⟨rfl,d,a⟩)
    have p:=cP a (by omega) HR.o
    have c1:=eJ p;have f1:=dP p;have u:=Hh (Ai d (aJ HG.o a));have I:=Hh p;clear d a p
    go_wp2
    refine Au (v:=.tuple #[.agg #[Iz 0,.int .u64 0],.bool false]) ?_ ?_ ?_;rotate_left
    ·rfl
    ·exact mB (m:=0) (n:=0) u.o.1 u.o.2 D (by decide) (by decide) (by rw [Ag];omega) (fun h=>by cases h) b.o
    ·have q:=eT I.o (Iz 0) (.int .u64 0)
     have K:=q.1;have J:=q.2;simp [results,results170,go_sem,K,J]
   ·have xb:¬ (27:Int)<(v:Int):=by omega
    have xh:v=24∨v=25∨v=26∨v=27:=by omega
    rcases xh with Z | Z | Z | Z
    ·subst Z
     by_cases Q:1≤r1.length
     ·skip
      have xd:r1.length ≥ 1:=by omega
      have b:Hid (uK (c::r1) true m (gM (r1.take 1)) (r1.drop 1)):=Hh fun M N t H y C=>by
       obtain ⟨O,A,s⟩:=HF.o M N t H y C;rcases eV y with ⟨h4,-,-⟩ | ⟨-,-,B,S⟩
       ·omega
       ·rw [←A,show (2:Nat) ^ (24 - 24)=1 by decide] at B
        rw [B] at s S;have P:(bR N 1).length=1:=aQ _ _;refine ⟨rfl,O,?_,?_⟩
        ·rw [s,List.take_left' P,lR S]
        ·rw [s,List.drop_left' P]
      have F:gM (r1.take 1)<18446744073709551616:=by
       have O:=nX (r1.take 1);have A:(r1.take 1).length≤8:=by rw [Bc];omega
       have s:(256:Nat) ^ (r1.take 1).length≤256 ^ 8:=Ch (by decide) A
       have h8:(256:Nat) ^ 8=18446744073709551616:=by decide
       omega
      have z:=Hh (fun E (Y:PrC E g mb r1)=>pQ 1 E Y R Q (by decide))
      rw [show ((1:Nat):Int)=1 from rfl] at z
      obtain ⟨X,G⟩:∃N,N=gM (r1.take 1):=⟨_,rfl⟩;rw [←G] at z b F;obtain ⟨U,x⟩:∃U,U=r1.drop 1:=⟨_,rfl⟩;have xa:U.length≤r1.length:=by rw [x,Ce];omega
      rw [←x] at z b;clear G x;clear Q
      go_enter func170,ntmps170
      go_upto_region 1 with fail
      rw [←i];clear i
      go_upto_region 2 with ((with_reducible refine (N1.o).mono ?_);rintro e w1 ⟨rfl,d,a⟩)
      have p:=cP a (by omega) HR.o
      have k:=Hh (Ai d (aJ HG.o a));have V:=Hh a.size;have I:=Hh p;clear d a p
      go_upto_region 8 with ((with_reducible refine (z.o _ k.o.1).mono ?_);rintro e w2 ⟨rfl,j,f⟩)
      have l:=cP f (by omega) I.o
      have c2:=eJ l;have f2:=dP l;have u:=Hh (Ai j (aJ k.o.2 f));have T:=Hh l;clear j f l
      go_wp2
      refine Au (v:=.tuple #[.agg #[Iz (m:Int),.int .u64 (X:Int)],.bool true]) ?_ ?_ ?_;rotate_left
      ·rfl
      ·exact mB (m:=m) (n:=X) u.o.1 u.o.2 D L F (by rw [Ag];omega) (fun _=>by rw [Ag];omega) b.o
      ·have q:=eT T.o (Iz (m:Int)) (.int .u64 (X:Int))
       have K:=q.1;have J:=q.2;simp [results,results170,go_sem,K,J]
     ·skip
      have b:Hid (uK (c::r1) false m 0 r1):=Hh fun M N t H y C=>by
       obtain ⟨O,A,s⟩:=HF.o M N t H y C
       exfalso
       rcases eV y with ⟨h4,-,-⟩ | ⟨-,-,B,S⟩
       ·omega
       ·rw [←A,show (2:Nat) ^ (24 - 24)=1 by decide] at B
        rw [B] at s;have P:(bR N 1).length=1:=aQ _ _;have:=Ad List.length s;rw [Lg,P] at this;omega
      have z:=Hh (fun E (Y:PrC E g mb r1)=>tX 1 E Y R Q)
      rw [show ((1:Nat):Int)=1 from rfl] at z
      clear Q
      go_enter func170,ntmps170
      go_upto_region 1 with fail
      rw [←i];clear i
      go_upto_region 2 with ((with_reducible refine (N1.o).mono ?_);rintro e w1 ⟨rfl,d,a⟩)
      have p:=cP a (by omega) HR.o
      have k:=Hh (Ai d (aJ HG.o a));have V:=Hh a.size;have I:=Hh p;clear d a p
      go_upto_region 8 with ((with_reducible refine (z.o _ k.o.1).mono ?_);rintro e w2 ⟨rfl,j,f⟩)
      have l:=cP f (by omega) I.o
      have c2:=eJ l;have f2:=dP l;have u:=Hh (Ai j (aJ k.o.2 f));have T:=Hh l;clear j f l
      go_wp2
      refine Au (v:=.tuple #[.agg #[Iz (m:Int),.int .u64 0],.bool false]) ?_ ?_ ?_;rotate_left
      ·rfl
      ·exact mB (m:=m) (n:=0) u.o.1 u.o.2 D L (by decide) (by rw [Ag];omega) (fun h=>by cases h) b.o
      ·have q:=eT T.o (Iz (m:Int)) (.int .u64 0)
       have K:=q.1;have J:=q.2;simp [results,results170,go_sem,K,J]
    ·subst Z
     by_cases Q:2≤r1.length
     ·skip
      have xd:r1.length ≥ 2:=by omega
      have b:Hid (uK (c::r1) true m (gM (r1.take 2)) (r1.drop 2)):=Hh fun M N t H y C=>by
       obtain ⟨O,A,s⟩:=HF.o M N t H y C;rcases eV y with ⟨h4,-,-⟩ | ⟨-,-,B,S⟩
       ·omega
       ·rw [←A,show (2:Nat) ^ (25 - 24)=2 by decide] at B
        rw [B] at s S;have P:(bR N 2).length=2:=aQ _ _;refine ⟨rfl,O,?_,?_⟩
        ·rw [s,List.take_left' P,lR S]
        ·rw [s,List.drop_left' P]
      have F:gM (r1.take 2)<18446744073709551616:=by
       have O:=nX (r1.take 2);have A:(r1.take 2).length≤8:=by rw [Bc];omega
       have s:(256:Nat) ^ (r1.take 2).length≤256 ^ 8:=Ch (by decide) A
       have h8:(256:Nat) ^ 8=18446744073709551616:=by decide
       omega
      have z:=Hh (fun E (Y:PrC E g mb r1)=>pQ 2 E Y R Q (by decide))
      rw [show ((2:Nat):Int)=2 from rfl] at z
      obtain ⟨X,G⟩:∃N,N=gM (r1.take 2):=⟨_,rfl⟩;rw [←G] at z b F;obtain ⟨U,x⟩:∃U,U=r1.drop 2:=⟨_,rfl⟩;have xa:U.length≤r1.length:=by rw [x,Ce];omega
      rw [←x] at z b;clear G x;clear Q
      go_enter func170,ntmps170
      go_upto_region 1 with fail
      rw [←i];clear i
      go_upto_region 2 with ((with_reducible refine (N1.o).mono ?_);rintro e w1 ⟨rfl,d,a⟩)
      have p:=cP a (by omega) HR.o
      have k:=Hh (Ai d (aJ HG.o a));have V:=Hh a.size;have I:=Hh p;clear d a p
      go_upto_region 8 with ((with_reducible refine (z.o _ k.o.1).mono ?_);rintro e w2 ⟨rfl,j,f⟩)
      have l:=cP f (by omega) I.o
      have c2:=eJ l;have f2:=dP l;have u:=Hh (Ai j (aJ k.o.2 f));have T:=Hh l;clear j f l
      go_wp2
      refine Au (v:=.tuple #[.agg #[Iz (m:Int),.int .u64 (X:Int)],.bool true]) ?_ ?_ ?_;rotate_left
      ·rfl
      ·exact mB (m:=m) (n:=X) u.o.1 u.o.2 D L F (by rw [Ag];omega) (fun _=>by rw [Ag];omega) b.o
      ·have q:=eT T.o (Iz (m:Int)) (.int .u64 (X:Int))
       have K:=q.1;have J:=q.2;simp [results,results170,go_sem,K,J]
     ·skip
      have b:Hid (uK (c::r1) false m 0 r1):=Hh fun M N t H y C=>by
       obtain ⟨O,A,s⟩:=HF.o M N t H y C
       exfalso
       rcases eV y with ⟨h4,-,-⟩ | ⟨-,-,B,S⟩
       ·omega
       ·rw [←A,show (2:Nat) ^ (25 - 24)=2 by decide] at B
        rw [B] at s;have P:(bR N 2).length=2:=aQ _ _;have:=Ad List.length s;rw [Lg,P] at this;omega
      have z:=Hh (fun E (Y:PrC E g mb r1)=>tX 2 E Y R Q)
      rw [show ((2:Nat):Int)=2 from rfl] at z
      clear Q
      go_enter func170,ntmps170
      go_upto_region 1 with fail
      rw [←i];clear i
      go_upto_region 2 with ((with_reducible refine (N1.o).mono ?_);rintro e w1 ⟨rfl,d,a⟩)
      have p:=cP a (by omega) HR.o
      have k:=Hh (Ai d (aJ HG.o a));have V:=Hh a.size;have I:=Hh p;clear d a p
      go_upto_region 8 with ((with_reducible refine (z.o _ k.o.1).mono ?_);rintro e w2 ⟨rfl,j,f⟩)
      have l:=cP f (by omega) I.o
      have c2:=eJ l;have f2:=dP l;have u:=Hh (Ai j (aJ k.o.2 f));have T:=Hh l;clear j f l
      go_wp2
      refine Au (v:=.tuple #[.agg #[Iz (m:Int),.int .u64 0],.bool false]) ?_ ?_ ?_;rotate_left
      ·rfl
      ·exact mB (m:=m) (n:=0) u.o.1 u.o.2 D L (by decide) (by rw [Ag];omega) (fun h=>by cases h) b.o
      ·have q:=eT T.o (Iz (m:Int)) (.int .u64 0)
       have K:=q.1;have J:=q.2;simp [results,results170,go_sem,K,J]
    ·subst Z
     by_cases Q:4≤r1.length
     ·skip
      have xd:r1.length ≥ 4:=by omega
      have b:Hid (uK (c::r1) true m (gM (r1.take 4)) (r1.drop 4)):=Hh fun M N t H y C=>by
       obtain ⟨O,A,s⟩:=HF.o M N t H y C;rcases eV y with ⟨h4,-,-⟩ | ⟨-,-,B,S⟩
       ·omega
       ·rw [←A,show (2:Nat) ^ (26 - 24)=4 by decide] at B
        rw [B] at s S;have P:(bR N 4).length=4:=aQ _ _;refine ⟨rfl,O,?_,?_⟩
        ·rw [s,List.take_left' P,lR S]
        ·rw [s,List.drop_left' P]
      have F:gM (r1.take 4)<18446744073709551616:=by
       have O:=nX (r1.take 4);have A:(r1.take 4).length≤8:=by rw [Bc];omega
       have s:(256:Nat) ^ (r1.take 4).length≤256 ^ 8:=Ch (by decide) A
       have h8:(256:Nat) ^ 8=18446744073709551616:=by decide
       omega
      have z:=Hh (fun E (Y:PrC E g mb r1)=>pQ 4 E Y R Q (by decide))
      rw [show ((4:Nat):Int)=4 from rfl] at z
      obtain ⟨X,G⟩:∃N,N=gM (r1.take 4):=⟨_,rfl⟩;rw [←G] at z b F;obtain ⟨U,x⟩:∃U,U=r1.drop 4:=⟨_,rfl⟩;have xa:U.length≤r1.length:=by rw [x,Ce];omega
      rw [←x] at z b;clear G x;clear Q
      go_enter func170,ntmps170
      go_upto_region 1 with fail
      rw [←i];clear i
      go_upto_region 2 with ((with_reducible refine (N1.o).mono ?_);rintro e w1 ⟨rfl,d,a⟩)
      have p:=cP a (by omega) HR.o
      have k:=Hh (Ai d (aJ HG.o a));have V:=Hh a.size;have I:=Hh p;clear d a p
      go_upto_region 8 with ((with_reducible refine (z.o _ k.o.1).mono ?_);rintro e w2 ⟨rfl,j,f⟩)
      have l:=cP f (by omega) I.o
      have c2:=eJ l;have f2:=dP l;have u:=Hh (Ai j (aJ k.o.2 f));have T:=Hh l;clear j f l
      go_wp2
      refine Au (v:=.tuple #[.agg #[Iz (m:Int),.int .u64 (X:Int)],.bool true]) ?_ ?_ ?_;rotate_left
      ·rfl
      ·exact mB (m:=m) (n:=X) u.o.1 u.o.2 D L F (by rw [Ag];omega) (fun _=>by rw [Ag];omega) b.o
      ·have q:=eT T.o (Iz (m:Int)) (.int .u64 (X:Int))
       have K:=q.1;have J:=q.2;simp [results,results170,go_sem,K,J]
     ·skip
      have b:Hid (uK (c::r1) false m 0 r1):=Hh fun M N t H y C=>by
       obtain ⟨O,A,s⟩:=HF.o M N t H y C
       exfalso
       rcases eV y with ⟨h4,-,-⟩ | ⟨-,-,B,S⟩
       ·omega
       ·rw [←A,show (2:Nat) ^ (26 - 24)=4 by decide] at B
        rw [B] at s;have P:(bR N 4).length=4:=aQ _ _;have:=Ad List.length s;rw [Lg,P] at this;omega
      have z:=Hh (fun E (Y:PrC E g mb r1)=>tX 4 E Y R Q)
      rw [show ((4:Nat):Int)=4 from rfl] at z
      clear Q
      go_enter func170,ntmps170
      go_upto_region 1 with fail
      rw [←i];clear i
      go_upto_region 2 with ((with_reducible refine (N1.o).mono ?_);rintro e w1 ⟨rfl,d,a⟩)
      have p:=cP a (by omega) HR.o
      have k:=Hh (Ai d (aJ HG.o a));have V:=Hh a.size;have I:=Hh p;clear d a p
      go_upto_region 8 with ((with_reducible refine (z.o _ k.o.1).mono ?_);rintro e w2 ⟨rfl,j,f⟩)
      have l:=cP f (by omega) I.o
      have c2:=eJ l;have f2:=dP l;have u:=Hh (Ai j (aJ k.o.2 f));have T:=Hh l;clear j f l
      go_wp2
      refine Au (v:=.tuple #[.agg #[Iz (m:Int),.int .u64 0],.bool false]) ?_ ?_ ?_;rotate_left
      ·rfl
      ·exact mB (m:=m) (n:=0) u.o.1 u.o.2 D L (by decide) (by rw [Ag];omega) (fun h=>by cases h) b.o
      ·have q:=eT T.o (Iz (m:Int)) (.int .u64 0)
       have K:=q.1;have J:=q.2;simp [results,results170,go_sem,K,J]
    ·subst Z
     by_cases Q:8≤r1.length
     ·skip
      have xd:r1.length ≥ 8:=by omega
      have b:Hid (uK (c::r1) true m (gM (r1.take 8)) (r1.drop 8)):=Hh fun M N t H y C=>by
       obtain ⟨O,A,s⟩:=HF.o M N t H y C;rcases eV y with ⟨h4,-,-⟩ | ⟨-,-,B,S⟩
       ·omega
       ·rw [←A,show (2:Nat) ^ (27 - 24)=8 by decide] at B
        rw [B] at s S;have P:(bR N 8).length=8:=aQ _ _;refine ⟨rfl,O,?_,?_⟩
        ·rw [s,List.take_left' P,lR S]
        ·rw [s,List.drop_left' P]
      have F:gM (r1.take 8)<18446744073709551616:=by
       have O:=nX (r1.take 8);have A:(r1.take 8).length≤8:=by rw [Bc];omega
       have s:(256:Nat) ^ (r1.take 8).length≤256 ^ 8:=Ch (by decide) A
       have h8:(256:Nat) ^ 8=18446744073709551616:=by decide
       omega
      have z:=Hh (fun E (Y:PrC E g mb r1)=>pQ 8 E Y R Q (by decide))
      rw [show ((8:Nat):Int)=8 from rfl] at z
      obtain ⟨X,G⟩:∃N,N=gM (r1.take 8):=⟨_,rfl⟩;rw [←G] at z b F;obtain ⟨U,x⟩:∃U,U=r1.drop 8:=⟨_,rfl⟩;have xa:U.length≤r1.length:=by rw [x,Ce];omega
      rw [←x] at z b;clear G x;clear Q
      go_enter func170,ntmps170
      go_upto_region 1 with fail
      rw [←i];clear i
      go_upto_region 2 with ((with_reducible refine (N1.o).mono ?_);rintro e w1 ⟨rfl,d,a⟩)
      have p:=cP a (by omega) HR.o
      have k:=Hh (Ai d (aJ HG.o a));have V:=Hh a.size;have I:=Hh p;clear d a p
      go_upto_region 8 with ((with_reducible refine (z.o _ k.o.1).mono ?_);rintro e w2 ⟨rfl,j,f⟩)
      have l:=cP f (by omega) I.o
      have c2:=eJ l;have f2:=dP l;have u:=Hh (Ai j (aJ k.o.2 f));have T:=Hh l;clear j f l
      go_wp2
      refine Au (v:=.tuple #[.agg #[Iz (m:Int),.int .u64 (X:Int)],.bool true]) ?_ ?_ ?_;rotate_left
      ·rfl
      ·exact mB (m:=m) (n:=X) u.o.1 u.o.2 D L F (by rw [Ag];omega) (fun _=>by rw [Ag];omega) b.o
      ·have q:=eT T.o (Iz (m:Int)) (.int .u64 (X:Int))
       have K:=q.1;have J:=q.2;simp [results,results170,go_sem,K,J]
     ·skip
      have b:Hid (uK (c::r1) false m 0 r1):=Hh fun M N t H y C=>by
       obtain ⟨O,A,s⟩:=HF.o M N t H y C
       exfalso
       rcases eV y with ⟨h4,-,-⟩ | ⟨-,-,B,S⟩
       ·omega
       ·rw [←A,show (2:Nat) ^ (27 - 24)=8 by decide] at B
        rw [B] at s;have P:(bR N 8).length=8:=aQ _ _;have:=Ad List.length s;rw [Lg,P] at this;omega
      have z:=Hh (fun E (Y:PrC E g mb r1)=>tX 8 E Y R Q)
      rw [show ((8:Nat):Int)=8 from rfl] at z
      clear Q
      go_enter func170,ntmps170
      go_upto_region 1 with fail
      rw [←i];clear i
      go_upto_region 2 with ((with_reducible refine (N1.o).mono ?_);rintro e w1 ⟨rfl,d,a⟩)
      have p:=cP a (by omega) HR.o
      have k:=Hh (Ai d (aJ HG.o a));have V:=Hh a.size;have I:=Hh p;clear d a p
      go_upto_region 8 with ((with_reducible refine (z.o _ k.o.1).mono ?_);rintro e w2 ⟨rfl,j,f⟩)
      have l:=cP f (by omega) I.o
      have c2:=eJ l;have f2:=dP l;have u:=Hh (Ai j (aJ k.o.2 f));have T:=Hh l;clear j f l
      go_wp2
      refine Au (v:=.tuple #[.agg #[Iz (m:Int),.int .u64 0],.bool false]) ?_ ?_ ?_;rotate_left
      ·rfl
      ·exact mB (m:=m) (n:=0) u.o.1 u.o.2 D L (by decide) (by rw [Ag];omega) (fun h=>by cases h) b.o
      ·have q:=eT T.o (Iz (m:Int)) (.int .u64 0)
       have K:=q.1;have J:=q.2;simp [results,results170,go_sem,K,J]
end Go.Proofs.YtncdpanfefnjlaaGreatDoor