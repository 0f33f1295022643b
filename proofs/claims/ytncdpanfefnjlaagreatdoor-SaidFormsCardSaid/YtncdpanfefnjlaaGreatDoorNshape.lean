import Derived.Test.YtncdpanfefnjlaaGreatDoorSched
set_option linter.unusedVariables false
set_option linter.unusedSimpArgs false
set_option maxHeartbeats 1600000
set_option maxRecDepth 100000
namespace Go.Proofs.YtncdpanfefnjlaaGreatDoor
open Go.Proofs.Tryz
open Go.ChangeShapes Go.WideShapes Go.ChangeAt Go.RowKit
theorem zE {w w':World} {g h B:Nat} {u v x:Value} (a:Below B w w') (c:g<B) (b:h<B) (s:w.cell? ⟨g,1,none⟩=some u∧w.cell? ⟨h,0,none⟩=some v∧w.cell? ⟨h,1,none⟩=some x):w'.cell? ⟨g,1,none⟩=some u∧w'.cell? ⟨h,0,none⟩=some v∧w'.cell? ⟨h,1,none⟩=some x:=
 ⟨by rw [a.cell (p:=⟨g,1,none⟩) c];exact s.1,by rw [a.cell (p:=⟨h,0,none⟩) b];exact s.2.1,by rw [a.cell (p:=⟨h,1,none⟩) b];exact s.2.2⟩
theorem OV (n:Nat) (a:Bt) (w:World) (h1:1≤n) (h8:n≤8) (P:a.size=lC n) (H:Lay w):Calls prog 70 #[.agg #[Iz (n:Int),.string a]] w fun e w'=>e=.returned (.tuple #[.string ⟨(zF n a.data.toList).toArray⟩,Iz 0])∧Below w.heap.size w w':=by
 have C:=Hh (fun (q:World) (s:Lay q)=>rU (n:Int) q s)
 unfold IE at C;rw [show ((n:Int)).toNat=n from rfl,show xR (n:Int)=(lC n:Int) from rfl,Ap (show 1≤(n:Int)∧(n:Int)≤8 by omega)] at C
 obtain ⟨d,p⟩:∃d:Bt,d=⟨(kU n).toArray⟩:=⟨_,rfl⟩;rw [←p] at C;obtain ⟨b,r⟩:∃b,b=lC n:=⟨_,rfl⟩;rw [←r] at C P;have xf:(a.size:Int)=(b:Int):=by omega
 obtain ⟨l,x⟩:∃l,l=mL n:=⟨_,rfl⟩;have F:l≤2:=by rw [x];exact US n
 have xc:a.size≤626:=by rw [P,r];rcases iA (c:=n) (by omega) (by omega) with rfl | rfl | rfl | rfl | rfl | rfl | rfl | rfl <;> decide
 have Z:=Hh (fun (q:World)=>DN d b l q (by omega) (by rw [x,r];rfl))
 have D:(l+a.size) % 3=0:=by rw [P,r,x];exact MN n
 obtain ⟨V,G⟩:∃V:Bt,V=⟨(zF n a.data.toList).toArray⟩:=⟨_,rfl⟩;rw [←G];have k:=Hh p;have xe:=Hh r;have N:=Hh x;have M:=Hh G;clear p r x G;have s:((({ data:=#[0,0] }:Bt).extract 0 l++a).data.toList)=List.replicate l 0++a.data.toList:=RJ l F a;have Q:(({ data:=#[0,0] }:Bt).extract 0 l++a).size=l+a.size:=by
  have:=Ad List.length s;rw [Ah,Lg,Dy,Ah] at this;exact this
 obtain ⟨T,z⟩:∃T:Bt,T=aBg (mF (List.replicate l 0++a.data.toList)):=⟨_,rfl⟩;have xd:l≤T.size:=by
  rw [z];have:=MO l a (by omega) D
  exact this
 have E:=Hh (fun (q:World)=>NR (({ data:=#[0,0] }:Bt).extract 0 l++a) q (by unfold maxLen;omega))
 have A:aIb ((({ data:=#[0,0] }:Bt).extract 0 l++a).data.toList)=T:=by
  rw [s,z];unfold aIb;rw [Ae (by rw [Lg,Dy,Ah];show ¬ (65536<l+a.size∨(l+a.size) % 3 ≠ 0);omega)]
 have y:aIc ((({ data:=#[0,0] }:Bt).extract 0 l++a).data.toList)=0:=by
  rw [s];unfold aIc;rw [Lg,Dy,Ah,Ae (show ¬65536<l+a.data.size from fun (h:65536<l+a.size)=>by omega),Ae (show ¬ (l+a.data.size) % 3 ≠ 0 from fun (h:(l+a.size) % 3 ≠ 0)=>h D)]
 rw [A,y] at E;have xa:T.size≤100000:=by
  rw [z]
  show (mF (List.replicate l 0++a.data.toList)).length≤_
  rw [iZ ((l+a.size) / 3) _ (by rw [Lg,Dy,Ah];show l+a.size=_;omega)]
  omega
 have Y:d.size≤4:=by
  rw [k.out]
  show (kU n).length≤4
  rcases iA (c:=n) (by omega) (by omega) with rfl | rfl | rfl | rfl | rfl | rfl | rfl | rfl <;> decide
 have K:=Hh z;clear A y z s Q;have xh:(0:Int)≤(l:Int):=by omega
 have xb:(l:Int)≤2:=by omega
 have L:¬9223372036854775807<d.size+(T.size - l):=by omega
 have S:¬9223372036854775807<l+b:=by omega
 have xg:(l:Int)≤(T.size:Int):=by omega
 have HL:=Hh (H.below (B:=w.heap.size) H.lt ((Br _ _).alloc (Lr _) (.cells #[Iz (n:Int),.string a] 105)));have U:=yA w (Iz (n:Int)) (.string a) 105;clear H
 go_enter func70,ntmps70
 go_wp2_with (go_at_call 65;(with_reducible refine (C.o _ HL.o).mono ?_);rintro e f ⟨rfl,g⟩;have p1:=lV g (by simp) U;have m:w.heap.size<f.heap.size:=(by have:=g.size;simp at this;omega))
 have I:(f.alloc (.cells #[.string d,Iz (b:Int)] 99)).cell? ⟨w.heap.size,1,none⟩=some (.string a)∧(f.alloc (.cells #[.string d,Iz (b:Int)] 99)).cell? ⟨f.heap.size,0,none⟩=some (.string d)∧(f.alloc (.cells #[.string d,Iz (b:Int)] 99)).cell? ⟨f.heap.size,1,none⟩=some (Iz (b:Int)):=
  ⟨(lV ((Br f.heap.size f).alloc (Lr _) _) m p1).2,yA f (.string d) (Iz (b:Int)) 99⟩
 have X:=(((Br w.heap.size w).alloc (Lr _) _).trans (g.mono (by simp))).alloc (o:=.cells #[.string d,Iz (b:Int)] 99) (Bw m)
 have u:f.heap.size<(f.alloc (.cells #[.string d,Iz (b:Int)] 99)).heap.size:=by simp
 clear U p1 HL g
 go_region_held3 (fun w'=>w'.cell? ⟨w.heap.size,1,none⟩=some (.string a)∧w'.cell? ⟨f.heap.size,0,none⟩=some (.string d)∧w'.cell? ⟨f.heap.size,1,none⟩=some (Iz (b:Int))) (first | exact I | exact O | exact J)
  (first
   | (go_at_call 97;refine (Z.o _).mono ?_;rintro e w2 ⟨rfl,j⟩;have O:=zE j (Cm m u) u I;have v:=Ll u j.size)
   | (go_at_call 106;refine (E.o _).mono ?_;rintro e w3 ⟨rfl,i⟩;have J:=zE i (Cm m v) v O;have W:=Ll v i.size))
 have b3:=(X.drew.trans (j.mono (Bw (Cm m u)))).trans (i.mono (Bw (Cm m v)));have R:=J.2;clear I O J X j i u v
 go_wp2
 go_region_held3 (fun w'=>w'.cell? ⟨f.heap.size,0,none⟩=some (.string d)∧w'.cell? ⟨f.heap.size,1,none⟩=some (Iz (b:Int))) (first | exact R | exact k4)
  (first | (go_at_call 97;refine (Z.o _).mono ?_;rintro e w4 ⟨rfl,t⟩;have k4:=lV t W R))
 go_wp2
 go_ret2
 refine ⟨?_,b3.drew.trans (t.mono (Bw (Cm m W)))⟩
 show Ending.returned (.tuple #[.string (d++T.extract l T.size),Iz 0])=_
 rw [show d++T.extract l T.size=V by rw [M.out,k.out,K.out,N.out];exact aEx _ _ _]
theorem VO (c:Int) (a:Bt) (w:World) (i:a.size≤maxLen - 2) (f:Lay w):Calls prog 70 #[.agg #[Iz c,.string a]] w fun e w'=>e=.returned (.tuple #[.string (rB c a),Iz (AE c a)])∧Below w.heap.size w w':=by
 unfold maxLen at i;have p:=f.lt;have HL:=Hh (f.below (B:=w.heap.size) f.lt ((Br _ _).alloc (Lr _) (.cells #[Iz c,.string a] 105)));have q:=yA w (Iz c) (.string a) 105;have C:=Hh (fun (m:World) (t:Lay m)=>rU c m t)
 by_cases h:1≤c∧c≤8
 ·by_cases d:a.size=lC c.toNat
  ·obtain ⟨n,rfl⟩:∃n:Nat,c=(n:Int):=⟨c.toNat,by omega⟩
   unfold rB AE;rw [Am ⟨h,d⟩,Am h,Am d];exact OV n a w (by omega) (by omega) d f
  ·unfold rB AE
   rw [Ae (fun h=>d h.2),Am h,Ae d]
   unfold IE at C;rw [Ap h] at C;have k:¬ (a.size:Int)=xR c:=by unfold xR;omega
   obtain ⟨r,i⟩:∃r,r=xR c:=⟨_,rfl⟩;rw [←i] at k C;clear i h d f
   go_enter func70,ntmps70
   go_wp2_with (go_at_call 65;(with_reducible refine (C.o _ HL.o).mono ?_);rintro e j ⟨rfl,b⟩;have s:=lV b (by simp) q;have l:w.heap.size<j.heap.size:=(by have:=b.size;simp at this;omega);have u:=(lV ((Br j.heap.size j).alloc (Lr _) (.cells #[.string ⟨(kU c.toNat).toArray⟩,Iz r] 99)) l s).2)
   go_ret2
   exact ⟨rfl,(((Br w.heap.size w).alloc (Lr _) _).trans (b.mono (by simp))).alloc (Bw l) _⟩
 ·unfold rB AE
  rw [Ae (fun g=>h g.1),Ae h]
  rw [MP c (by omega)] at C
  clear h f i
  go_enter func70,ntmps70
  go_wp2_with (go_at_call 65;(with_reducible refine (C.o _ HL.o).mono ?_);rintro e j ⟨rfl,b⟩)
  go_ret2
  exact ⟨rfl,(((Br w.heap.size w).alloc (Lr _) _).trans (b.mono (by simp))).alloc (by have:=b.size;simp at this;omega) _⟩
theorem QL (c:Int) (a:Bt) (h:AE c a ≠ 0):rB c a=⟨#[]⟩:=by
 unfold AE at h;unfold rB
 by_cases b:1≤c∧c≤8
 ·by_cases d:a.size=lC c.toNat
  ·rw [Am b,Am d] at h;exact absurd rfl h
  ·rw [Ae (fun g=>d g.2)]
 ·rw [Ae (fun g=>b g.1)]
theorem VQ (c:Int) (a:Bt) (w:World) (m:a.size≤maxLen - 2) (g:Lay w):Calls prog 38 #[Iz c,.string a] w fun e w'=>e=.returned (.string (rB c a))∧Below w.heap.size w w':=by
 have C:=Hh (fun (i:World) (f:Lay i)=>VO c a i m f)
 have j:=Hh (QL c a);obtain ⟨x,f⟩:∃x,x=AE c a:=⟨_,rfl⟩;obtain ⟨s,d⟩:∃s,s=rB c a:=⟨_,rfl⟩;rw [←f,←d] at C;rw [←f,←d] at j;rw [←d];have HL:=Hh g;clear f d g
 by_cases h:x=0
 ·subst h
  go_enter func38,ntmps38
  go_wp2_with (go_at_call 70;(with_reducible refine (C.o _ HL.o).mono ?_);rintro e l ⟨rfl,b⟩)
  go_ret
  exact ⟨rfl,b⟩
 ·have k:(x != 0)=true:=by simp [h]
  have d:=Hh (j.o h)
  go_enter func38,ntmps38
  go_wp2_with (go_at_call 70;(with_reducible refine (C.o _ HL.o).mono ?_);rintro e l ⟨rfl,b⟩)
  go_ret
  exact ⟨by rw [d.o];rfl,b⟩
def uH (B:Nat) (w:World) (a:Option Addr) (e c:Nat) (zs:List Int):Prop:=
 e≤c∧c≤maxLen∧(∀i,i<c→∃b d,a=some ⟨b,d,none⟩∧b<B∧w.cell? ⟨b,d+i,none⟩=some (Iz (zs.getD i 0)))∧∀i,-9223372036854775808≤zs.getD i 0∧zs.getD i 0≤9223372036854775807
theorem uH.of_row {w:World} {a:Option Addr} {b c:Nat} {zs:List Int} (h:aJg .i64 w a b c zs):uH w.heap.size w a b c zs:=by
 obtain ⟨e,g,k,j,d⟩:=h;refine ⟨e,g,j,fun i=>?_⟩
 rcases Cf i zs.length with h | h
 ·have f:zs.getD i 0 ∈ zs:=by rw [List.getD,Ac h];exact Du h
  exact bounds_i64 (d _ f)
 ·rw [List.getD,Cb h];decide
theorem uH.same {B:Nat} {w w':World} {a:Option Addr} {c d:Nat} {zs:List Int} (h:uH B w a c d zs) (k:∀j,j<B→w'.heap[j]?=w.heap[j]?):uH B w' a c d zs:=by
 obtain ⟨l,n,m,o⟩:=h;refine ⟨l,n,fun i p=>?_,o⟩
 obtain ⟨b,g,e,f,q⟩:=m i p;refine ⟨b,g,e,f,?_⟩;rw [←q];simp only [World.cell?,k b f]
def bG (B:Nat) (w:World) (g:Nat):Prop:=
 ∃a b c k zs,B≤g∧w.heap[g]?=some (.cells #[.slice a b c,Iz ((k:Nat):Int)] 50 (0,0))∧k≤b∧uH B w a b c zs
theorem bG.lt {B g:Nat} {w:World} (h:bG B w g):g<w.heap.size:=by
 obtain ⟨_,_,_,_,_,_,h,_⟩:=h;exact Aa h
theorem bG.same {B g:Nat} {w w':World} (h:bG B w g) (d:∀j,j≤g→w'.heap[j]?=w.heap[j]?):bG B w' g:=by
 obtain ⟨a,b,c,k,zs,f,l,i,e⟩:=h;exact ⟨a,b,c,k,zs,f,(d g (Lr _)).trans l,i,e.same fun j m=>d j (by omega)⟩
theorem bG.below {B g C:Nat} {w w':World} (h:bG B w g) (b:g<C) (a:Below C w w'):bG B w' g:=h.same fun j c=>a.block j (by omega)
theorem bG.go {B g:Nat} {w w':World} (h:bG B w g) (a:Below w.heap.size w w'):bG B w' g:=h.below h.lt a
theorem aK {w w':World} {C:Nat} (a:Below C w w') (b:w.heap.size≤C) (row:Option Nat):w.grownBy w' row:=
 ⟨a.os,a.tape,a.output,a.size,fun i c _=>a.block i (by omega)⟩
theorem cP {w w':World} {g h:Nat} {o:Obj} (c:w.grownBy w' (some g)) (a:h ≠ g) (b:w.heap[h]?=some o):w'.heap[h]?=some o:=
 (c.block h (Aa b) (by intro e;cases e;exact a rfl)).trans b
theorem YH (a:Option Addr) (b c:Nat) (w:World):Calls prog 5 #[.slice a b c] w fun e w'=>e=.returned (.bool (decide ((b:Int)≤500)))∧w=w':=by
 go_enter func5,ntmps5
 go_wp2
 go_ret
 exact ⟨rfl,rfl⟩
theorem aBr (a:Option Addr) (b c:Nat) (zs:List Int) (w:World) (h:uH w.heap.size w a b c zs):Calls prog 8 #[.slice a b c] w fun e w'=>e=.returned (.pointer (some ⟨w.heap.size,0,none⟩))∧Below w.heap.size w w'∧bG w.heap.size w' w.heap.size:=by
 have d:=Hh h;clear h
 go_enter func8,ntmps8
 go_wp2
 go_ret
 refine ⟨rfl,(Br _ _).alloc (Lr _) _,a,b,c,0,zs,Lr _,Hn _ _,Av _,d.o.same fun j f=>?_⟩
 exact Bj _ _ j f
theorem SF (w:World) (g:Nat) (v:Value):w.grownBy (w.setCell ⟨g,1,none⟩ v) (some g):=
 ⟨rfl,rfl,rfl,by simp [World.setCell],fun i _ a=>heap_setCell_other w ⟨g,1,none⟩ i v (fun e=>a (by rw [e]))⟩
theorem pK {a w:World} {row:Option Nat} (h:a.grownBy w row) (n:Nat):a.grownBy (w.drewN n) row:=⟨h.os,h.tape,h.output,h.size,h.block⟩
theorem LZ (B g:Nat) (n:Nat) (w:World) (O:1≤n) (S:n<2 ^ 62) (hd:bG B w g):Calls prog 19 #[.pointer (some ⟨g,0,none⟩),Iz (n:Int)] w fun e w'=>(∃k:Nat,k<n∧e=.returned (Iz (k:Int)))∧w.grownBy w' (some g)∧bG B w' g:=by
 obtain ⟨a,d,t,k,zs,I,s,hk,K⟩:=hd;have R:=eJ s;have hf:=dP s;have f:=K;obtain ⟨T,A,c,p⟩:=K;unfold maxLen at A
 by_cases E:k<d
 ·obtain ⟨b,F,rfl,Q,q⟩:=c k (by omega)
  obtain ⟨z,N⟩:∃z,z=zs.getD k 0:=⟨_,rfl⟩;have i:=p k;rw [←N] at q i;have M:=Hh (fun (W:World)=>aHd z n W O S i.1 i.2)
  obtain ⟨m,J⟩:∃m:Nat,z % (n:Int)=(m:Int):=⟨(z % (n:Int)).toNat,by have:=Int.emod_nonneg z (b:=(n:Int)) (by omega);omega⟩
  have D:m<n:=by have:=Int.emod_lt_of_pos z (b:=(n:Int)) (by omega);omega
  rw [J] at M;have v:=Hh f;have x:=Hh s;have C:b ≠ g:=by omega
  clear f c p N J s
  go_enter func19,ntmps19
  have X:(k:Int)<(d:Int):=by omega
  have G:k<d:=E
  go_wp2
  go_quiet (fail)
  go_wp2
  have l:=KV (w:=w.drewN nq) x.o (Iz ((k:Int)+1));have r:=eJ l;have L:((w.drewN nq).setCell ⟨g,1,none⟩ (Iz ((k:Int)+1))).cell? ⟨b,F+k,none⟩=some (Iz z):=by
   rw [←q];simp only [World.cell?,heap_setCell_other (w.drewN nq) ⟨g,1,none⟩ b _ C]
   rfl
  have ek:(k:Int)+1 - 1=(k:Int):=by omega
  have e1:IntKind.i64.wrap ((k:Int)+1 - 1)=(k:Int):=by rw [ek];exact w64 _ (by omega)
  have Z:=aJ (pK (World.grownBy.refl w (some g)) nq) (SF (w.drewN nq) g (Iz ((k:Int)+1)));have Y:(0:Int)≤(k:Int):=by omega
  have P:=r.1;have U:=r.2;have y:=Hh l;have V:=Hh (v.o.same (w':=(w.drewN nq).setCell ⟨g,1,none⟩ (Iz ((k:Int)+1))) fun j hj=>heap_setCell_other (w.drewN nq) ⟨g,1,none⟩ j _ (show j ≠ g by omega))
  clear R q r l
  go_quiet (first | (go_at_call 9;(with_reducible refine (M.o _).mono ?_);exact fun e u h=>⟨h.1,_,h.2.symm⟩))
  go_wp2
  go_ret
  refine ⟨⟨m,D,rfl⟩,pK Z _,_,d,t,k+1,zs,I,y.o,by omega,V.o⟩
 ·have v:=Hh f
  have x:=Hh s;have xa:(d:Int)≤(k:Int):=by omega
  have H:d≤k:=by omega
  clear f c p s
  go_enter func19,ntmps19
  go_wp2
  go_quiet (fail)
  go_wp2
  go_ret
  refine ⟨⟨0,by omega,rfl⟩,pK (World.grownBy.refl w _) _,a,d,t,k,zs,I,x.o,by omega,v.o⟩
theorem iP {w w':World} {C e size n g:Nat} {v:Value} {c:Vl} (h:w.ownsRow C e size v n c) (i:w.grownBy w' (some g)) (j:g<C):w'.ownsRow C e size v n c:=by
 obtain ⟨d,l | ⟨f,a,b,k,o,m,r⟩⟩:=h
 ·exact ⟨d,.inl l⟩
 ·exact ⟨d,.inr ⟨f,a,b,k,o,cP i (by omega) m,r⟩⟩
theorem aCb {a b:World} {C e size n:Nat} {v:Value} {d:Vl} (h:a.ownsRow C e size v n d) (k:a.grownBy b v.ownBlock) (j:Nat) (l:j<C) (c:j<a.heap.size):b.heap[j]?=a.heap[j]?:=by
 refine k.block j c fun e=>?_
 obtain ⟨_,⟨rfl,_⟩ | ⟨i,f,g,rfl,m,_⟩⟩:=h
 ·simp [Value.ownBlock] at e
 ·simp [Value.ownBlock] at e;omega
theorem FG {W a b:World} {C e size n:Nat} {v:Value} {g:Vl} {row:Option Nat} (h:W.grownBy a row) (c:a.ownsRow C e size v n g) (k:a.grownBy b v.ownBlock) (i:W.heap.size≤C):W.grownBy b row:=
 ⟨k.os.trans h.os,k.tape.trans h.tape,k.output.trans h.output,Af h.size k.size,fun j f d=>(aCb c k j (by omega) (Ll f h.size)).trans (h.block j f d)⟩
theorem jG (B g:Nat) (n:Nat) (z:Int) (b:(n:Int)=z) (w:World) (c:1≤n) (a:n<2 ^ 62) (d:bG B w g):Calls prog 19 #[.pointer (some ⟨g,0,none⟩),Iz z] w fun e w'=>(∃k:Nat,k<n∧e=.returned (Iz (k:Int)))∧w.grownBy w' (some g)∧bG B w' g:=b ▸ LZ B g n w c a d
def aGt:Value→Nat
 | .string s=>s.size
 | _=>0
theorem bG.setNew {B g:Nat} {w:World} (h:bG B w g) {k:Nat} (a:g<k) (o:Nat) (v:Value):bG B (w.setCell ⟨k,o,none⟩ v) g:=
 h.same fun j b=>heap_setCell_other w ⟨k,o,none⟩ j v (show j ≠ k by omega)
end Go.Proofs.YtncdpanfefnjlaaGreatDoor
namespace Go.Proofs.YtncdpanfefnjlaaGreatDoor
open Go.Proofs.Tryz
open Go Go.RowKit
inductive ND where
 | mk (kind:Int) (bool:Bool) (num:Int) (text:Bt) (names:List Bt) (items:List ND)
namespace ND
def kind:ND→Int | .mk k _ _ _ _ _=>k
def bool:ND→Bool | .mk _ b _ _ _ _=>b
def num:ND→Int | .mk _ _ n _ _ _=>n
def text:ND→Bt | .mk _ _ _ t _ _=>t
def names:ND→List Bt | .mk _ _ _ _ ns _=>ns
def items:ND→List ND | .mk _ _ _ _ _ its=>its
end ND
@[reducible] def Na (X:ND) (a:Option Addr) (l c:Nat) (b:Option Addr) (m n:Nat):Array Value:=#[.int .i64 X.kind,.bool X.bool,.int .i64 X.num,.string X.text,.slice a l c,.slice b m n]
@[reducible] def Nc (X:ND) (a:Option Addr) (l c:Nat) (b:Option Addr) (m n:Nat):List Value:=[.int .i64 X.kind,.bool X.bool,.int .i64 X.num,.string X.text,.slice a l c,.slice b m n]
def bH (S:Nat→Prop) (w:World) (v:Value) (ns:List Bt):Prop:=
 ∃d a,v=.slice d ns.length a∧ns.length≤a∧a≤maxLen∧∀j s,ns[j]?=some s→∃b c,d=some ⟨b,c,none⟩∧S b∧w.cell? ⟨b,c+j,none⟩=some (.string s)∧s.size≤maxLen - 2
def cE (R:Vl→ND→Prop) (S:Nat→Prop) (w:World) (v:Value) (its:List ND):Prop:=
 ∃d a,v=.slice d its.length a∧its.length≤a∧a≤maxLen∧∀j x,its[j]?=some x→∃b c e,d=some ⟨b,c,none⟩∧S b∧(∀f u,e[f]?=some u→w.cell? ⟨b,c+j * 6+f,none⟩=some u)∧R e x
def aD:Nat→(Nat→Prop)→World→Vl→ND→Prop
 | 0,_,_,_,_=>False
 | d+1,S,w,cs,x=>∃a b,cs=[Iz x.kind,.bool x.bool,Iz x.num,.string x.text,a,b]∧x.text.size≤maxLen - 2∧bH S w a x.names∧cE (aD d S w) S w b x.items
section
variable {S S':Nat→Prop} {w w':World}
theorem bH.same {v:Value} {ns:List Bt} (h:bH S w v ns) (g:∀b,S b→w'.heap[b]?=w.heap[b]?):bH S w' v ns:=by
 obtain ⟨i,c,k,m,l,n⟩:=h;refine ⟨i,c,k,m,l,fun j s o=>?_⟩
 obtain ⟨b,a,e,d,p,f⟩:=n j s o;exact ⟨b,a,e,d,by rw [jA (g b d)];exact p,f⟩
theorem bH.mono {v:Value} {ns:List Bt} (h:bH S w v ns) (k:∀b,S b→S' b):bH S' w v ns:=by
 obtain ⟨g,c,i,m,l,n⟩:=h;refine ⟨g,c,i,m,l,fun j s o=>?_⟩
 obtain ⟨b,a,e,f,p,d⟩:=n j s o;exact ⟨b,a,e,k b f,p,d⟩
theorem cE.same {R R':Vl→ND→Prop} {v:Value} {its:List ND} (h:cE R S w v its) (i:∀b,S b→w'.heap[b]?=w.heap[b]?) (q:∀a x,R a x→R' a x):cE R' S w' v its:=by
 obtain ⟨k,d,l,o,n,p⟩:=h;refine ⟨k,d,l,o,n,fun j x t=>?_⟩
 obtain ⟨b,c,a,e,g,r,s⟩:=p j x t;exact ⟨b,c,a,e,g,fun f u m=>by rw [jA (i b g)];exact r f u m,q a x s⟩
theorem cE.mono {R R':Vl→ND→Prop} {v:Value} {its:List ND} (h:cE R S w v its) (k:∀b,S b→S' b) (o:∀a x,R a x→R' a x):cE R' S' w v its:=by
 obtain ⟨g,d,i,m,l,n⟩:=h;refine ⟨g,d,i,m,l,fun j x r=>?_⟩
 obtain ⟨b,c,a,e,f,p,q⟩:=n j x r;exact ⟨b,c,a,e,k b f,p,o a x q⟩
theorem aD.same:∀ {d:Nat} {a:Vl} {x:ND},aD d S w a x→(∀b,S b→w'.heap[b]?=w.heap[b]?)→aD d S w' a x
 | 0,_,_,h,_=>h
 | d+1,a,x,h,hb=>by
  obtain ⟨j,e,c,g,f,i⟩:=h;exact ⟨j,e,c,g,f.same hb,i.same hb fun a x h=>aD.same h hb⟩
theorem aD.mono:∀ {d:Nat} {a:Vl} {x:ND},aD d S w a x→(∀b,S b→S' b)→aD d S' w a x
 | 0,_,_,h,_=>h
 | d+1,a,x,h,hS=>by
  obtain ⟨j,e,c,g,f,i⟩:=h;exact ⟨j,e,c,g,f.mono hS,i.mono hS fun a x h=>aD.mono h hS⟩
theorem aD.deeper:∀ {d b:Nat} {a:Vl} {x:ND},d≤b→aD d S w a x→aD b S w a x
 | 0,_,_,_,_,h=>h.elim
 | d+1,0,_,_,hd,_=>by omega
 | d+1,b+1,a,x,hd,h=>by
  obtain ⟨j,e,c,g,f,i⟩:=h;exact ⟨j,e,c,g,f,i.mono (fun _ h=>h) fun a x h=>aD.deeper (by omega) h⟩
theorem aD.form {d:Nat} {c:Vl} {x:ND} (h:aD d S w c x):∃a b,c=[Iz x.kind,.bool x.bool,Iz x.num,.string x.text,a,b]:=by
 cases d with
 | zero=>exact h.elim
 | succ d=>obtain ⟨a,b,e,_⟩:=h;exact ⟨a,b,e⟩
theorem aD.len {d:Nat} {a:Vl} {x:ND} (h:aD d S w a x):a.length=6:=by
 obtain ⟨b,c,rfl⟩:=h.form
 rfl
theorem bH.nil (S:Nat→Prop) (w:World):bH S w (Sn) []:=⟨none,0,rfl,Lr _,Av _,fun j s h=>by simp at h⟩
theorem cE.nil (R:Vl→ND→Prop) (S:Nat→Prop) (w:World):cE R S w (Sn) []:=⟨none,0,rfl,Lr _,Av _,fun j s h=>by simp at h⟩
end
def nd0:ND:=.mk 0 false 0 ⟨#[]⟩ [] []
theorem cJ (S:Nat→Prop) (w:World) (k:Int) (b:Bool) (n:Int) (t:Bt) (a:t.size≤maxLen - 2):aD 1 S w [Iz k,.bool b,Iz n,.string t,Sn,Sn] (.mk k b n t [] []):=
 ⟨_,_,rfl,a,bH.nil S w,cE.nil _ S w⟩
def jS (a:TypeId) (base:Nat) (w:World) (v:Value) (ns:List Bt):Prop:=
 w.ownsRow base a 1 v ns.length (ns.map Value.string)∧∀s,s ∈ ns→s.size≤maxLen - 2
theorem jS.nil (b:TypeId) (base:Nat) (w:World):jS b base w (Sn) []:=⟨Dk w _ _ _,fun x a=>by cases a⟩
theorem jS.kept {a:TypeId} {base:Nat} {w w':World} {v:Value} {ns:List Bt} {row:Option Nat} (h:jS a base w v ns) (b:w.grownBy w' row) (c:v.ownBlock=none∨v.ownBlock ≠ row):jS a base w' v ns:=⟨h.1.kept b c,h.2⟩
theorem jS.below {a:TypeId} {base:Nat} {w w':World} {v:Value} {ns:List Bt} (h:jS a base w v ns) (c:Below w.heap.size w w'):jS a base w' v ns:=
 h.kept (aK c (Lr _) none) (by cases e:v.ownBlock with | none=>exact .inl rfl | some b=>exact .inr (by simp))
theorem jS.push {c:TypeId} {base:Nat} {w d:World} {v e:Value} {ns:List Bt} {s:Bt} (h:jS c base w v ns) (b:d.ownsRow base c 1 e (ns.length+1) (ns.map Value.string++[.string s])) (f:s.size≤maxLen - 2):jS c base d e (ns++[s]):=by
 refine ⟨by rw [Lg,Ef];exact b,fun x a=>?_⟩
 rcases Bg.1 a with a | a
 ·exact h.2 x a
 ·cases At.1 a;exact f
theorem jS.strs {r:TypeId} {base:Nat} {w:World} {v:Value} {ns:List Bt} (h:jS r base w v ns):bH (fun b=>base≤b∧b<w.heap.size) w v ns:=by
 obtain ⟨e,n⟩:=h;rcases e.2 with ⟨rfl,o⟩ | ⟨g,c,q,rfl,l,m,d,a,p,i⟩
 ·have k:ns=[]:=Aw.1 o
  subst k;exact bH.nil _ _
 ·refine ⟨_,c,rfl,d,a,fun j s f=>⟨g,0,rfl,⟨l,Aa m⟩,?_,n s (Ao f)⟩⟩
  have:=e.cells (g:=g) rfl j (.string s) (by rw [Be,f];rfl)
  rw [Bs] at this;exact this
abbrev NC:=Vl × ND
def cM (A:List NC):Vl:=A.flatMap fun x=>x.1
def aG (A:List NC):List ND:=A.map fun x=>x.2
theorem kJ (a b:List NC):cM (a++b)=cM a++cM b:=by simp [cM]
theorem jX:∀ {A:List NC} {j:Nat} {a:Vl} {x:ND},(∀y,y ∈ A→y.1.length=6)→A[j]?=some (a,x)→∀f u,a[f]?=some u→(cM A)[j * 6+f]?=some u
 | [],_,_,_,_,h,_,_,_=>by simp at h
 | y::t,0,a,x,hl,h,f,u,hu=>by
  simp at h;subst h;have g:f<a.length:=by
   rcases Cf f a.length with b | b
   ·exact b
   ·rw [Cb b] at hu;cases hu
  have e:cM ((a,x)::t)=a++cM t:=by simp [cM]
  rw [e,Nat.zero_mul,Ca,Cs g];exact hu
 | y::t,j+1,a,x,hl,h,f,u,hu=>by
  have d:=jX (A:=t) (j:=j) (fun z c=>hl z (by simp [c])) (by simpa using h) f u hu
  have e:cM (y::t)=y.1++cM t:=by simp [cM]
  have i:=hl y (by simp)
  rw [e,Dr (by omega),i,show (j+1) * 6+f - 6=j * 6+f by omega]
  exact d
theorem iL (A:List NC) (h:∀y,y ∈ A→y.1.length=6):(cM A).length=A.length * 6:=by
 induction A with
 | nil=>rfl
 | cons x t ih=>
  have e:cM (x::t)=x.1++cM t:=by simp [cM]
  rw [e,Lg,h x (by simp),ih fun y a=>h y (by simp [a]),Ag];omega
def iE (a:TypeId) (d base:Nat) (X:Option Nat) (w:World) (v:Value) (A:List NC):Prop:=
 w.ownsRow base a 6 v A.length (cM A)∧(∀b,X=some b→v.ownBlock ≠ some b)∧∀x,x ∈ A→aD d (fun b=>base≤b∧b<w.heap.size∧v.ownBlock ≠ some b∧X ≠ some b) w x.1 x.2
theorem iE.nil (a:TypeId) (d base:Nat) (X:Option Nat) (w:World):iE a d base X w (Sn) []:=⟨Dk w _ _ _,fun b _ e=>by simp [Value.ownBlock] at e,fun x c=>by cases c⟩
theorem iE.kept {k:TypeId} {d base:Nat} {X j:Option Nat} {w w':World} {v:Value} {A:List NC} {row:Option Nat} (h:iE k d base X w v A) (i:w.grownBy w' row) (c:∀r,row=some r→r<base∨X=some r) (f:j=X∨∀b,j=some b→w.heap.size≤b):iE k d base j w' v A:=by
 obtain ⟨g,l,n⟩:=h;refine ⟨g.kept i ?_,?_,fun x o=>?_⟩
 ·cases e:v.ownBlock with
  | none=>exact .inl rfl
  | some b=>
   refine .inr fun m=>?_
   have:=(g.lt b e).1;rcases c b m.symm with c | c
   ·omega
   ·exact l b c e
 ·intro b a e
  rcases f with rfl | f
  ·exact l b a e
  ·have:=f b a
   have:=(g.lt b e).2;omega
 ·refine ((n x o).same (w':=w') fun b a=>i.block b a.2.1 fun e=>?_).mono fun b a=>⟨a.1,Ll a.2.1 i.size,a.2.2.1,fun e=>?_⟩
  ·rcases c b e.symm with c | c
   ·omega
   ·exact a.2.2.2 c
  ·rcases f with rfl | f
   ·exact a.2.2.2 e
   ·have:=f b e
    omega
theorem iE.below {b:TypeId} {d base:Nat} {X:Option Nat} {w w':World} {v:Value} {A:List NC} (h:iE b d base X w v A) (a:Below w.heap.size w w'):iE b d base X w' v A:=
 h.kept (row:=none) ⟨a.os,a.tape,a.output,a.size,fun i c _=>a.block i c⟩ (fun r e=>by cases e) (.inl rfl)
theorem iE.push {o:TypeId} {d base:Nat} {X:Option Nat} {w g:World} {v i:Value} {A:List NC} {f:Vl} {x:ND} (h:iE o d base X w v A)
 (l:g.ownsRow base o 6 i (A.length+1) (cM A++f)) (r:w.grownBy g v.ownBlock) (k:i.ownBlock=v.ownBlock∨∀b,i.ownBlock=some b→w.heap.size≤b) (p:∀b,X=some b→b<w.heap.size)
 (u:aD d (fun b=>base≤b∧b<w.heap.size∧v.ownBlock ≠ some b∧X ≠ some b) w f x):iE o d base X g i (A++[(f,x)]):=by
 obtain ⟨z,t,s⟩:=h;have j:∀ (f:Vl) (x:ND),aD d (fun b=>base≤b∧b<w.heap.size∧v.ownBlock ≠ some b∧X ≠ some b) w f x→aD d (fun b=>base≤b∧b<g.heap.size∧i.ownBlock ≠ some b∧X ≠ some b) g f x:=by
  intro f x q;refine (q.same (w':=g) fun b a=>r.block b a.2.1 fun e=>a.2.2.1 e.symm).mono fun b a=>⟨a.1,Ll a.2.1 r.size,fun n=>?_,a.2.2.2⟩
  rcases k with c | c
  ·rw [c] at n;exact a.2.2.1 n
  ·have:=c b n
   omega
 refine ⟨?_,?_,fun y m=>?_⟩
 ·rw [Lg,kJ]
  simpa [cM] using l
 ·intro b a e
  rcases k with c | c
  ·rw [c] at e;exact t b a e
  ·have:=c b e
   have:=p b a;omega
 ·rcases Bg.1 m with m | m
  ·exact j _ _ (s y m)
  ·cases At.1 m
   exact j _ _ u
theorem iE.nodes {D:TypeId} {d base:Nat} {X:Option Nat} {w:World} {v:Value} {A:List NC} (h:iE D d base X w v A):cE (aD d (fun b=>base≤b∧b<w.heap.size) w) (fun b=>base≤b∧b<w.heap.size) w v (aG A):=by
 obtain ⟨n,I,o⟩:=h;have E:(aG A).length=A.length:=by simp [aG]
 have t:∀y,y ∈ A→y.1.length=6:=fun y H=>(o y H).len
 rcases n.2 with ⟨rfl,l⟩ | ⟨g,m,B,rfl,i,s,q,k,z,F⟩
 ·have r:A=[]:=Aw.1 l
  subst r;exact cE.nil _ _ _
 ·refine ⟨_,m,by rw [E],by omega,k,fun j x c=>?_⟩
  have a:j<A.length:=by
   rcases Cf j A.length with p | p
   ·exact p
   ·rw [Cb (by omega)] at c;cases c
  have e:A[j]?=some (A[j].1,A[j].2):=by rw [Ac a]
  have G:x=A[j].2:=by
   rw [aG,Be,e] at c;exact (Ab c).symm
  subst G;refine ⟨g,0,A[j].1,rfl,⟨i,Aa s⟩,fun f u C=>?_,(o _ (Du a)).mono fun b i=>⟨i.1,i.2.1⟩⟩
  have:=n.cells (g:=g) rfl _ _ (jX t e f u C);rw [Bs,←Nat.add_assoc] at this;exact this
theorem dX {w:World} {g j:Nat} {b:Array Value} {T:TypeId} (h:w.heap[g]?=some (.cells b T (0,0))) (x:Value):(w.setCell ⟨g,j,none⟩ x).heap[g]?=some (.cells (b.setIfInBounds j x) T (0,0)):=by
 have a:=Aa h;have c:w.heap[g]=.cells b T (0,0):=by simpa [Cd a] using h
 show (w.heap.modify g _)[g]?=_
 rw [Cd (by simpa using a),Array.getElem_modify_self,c]
 rfl
section
variable {w:World} {g:Nat} {a b c d e f:Value} {T:TypeId}
theorem aA (h:w.heap[g]?=some (.cells #[a,b,c,d,e,f] T (0,0))):w.cell? ⟨g,0,none⟩=some a∧w.cell? ⟨g,1,none⟩=some b∧w.cell? ⟨g,2,none⟩=some c∧w.cell? ⟨g,3,none⟩=some d∧w.cell? ⟨g,4,none⟩=some e∧w.cell? ⟨g,5,none⟩=some f:=by
 simp [World.cell?,h]
theorem aE (h:w.heap[g]?=some (.cells #[a,b,c,d,e,f] T (0,0))):w.frozen? ⟨g,0,none⟩=false∧w.frozen? ⟨g,1,none⟩=false∧w.frozen? ⟨g,2,none⟩=false∧w.frozen? ⟨g,3,none⟩=false∧w.frozen? ⟨g,4,none⟩=false∧w.frozen? ⟨g,5,none⟩=false:=by
 simp [World.frozen?,h]
theorem LG (h:w.heap[g]?=some (.cells #[a,b,c,d,e,f] T (0,0))) (x:Value):(w.setCell ⟨g,0,none⟩ x).heap[g]?=some (.cells #[x,b,c,d,e,f] T (0,0)):=dX h x
theorem LF (h:w.heap[g]?=some (.cells #[a,b,c,d,e,f] T (0,0))) (x:Value):(w.setCell ⟨g,1,none⟩ x).heap[g]?=some (.cells #[a,x,c,d,e,f] T (0,0)):=dX h x
theorem LD (h:w.heap[g]?=some (.cells #[a,b,c,d,e,f] T (0,0))) (x:Value):(w.setCell ⟨g,2,none⟩ x).heap[g]?=some (.cells #[a,b,x,d,e,f] T (0,0)):=dX h x
theorem LC (h:w.heap[g]?=some (.cells #[a,b,c,d,e,f] T (0,0))) (x:Value):(w.setCell ⟨g,3,none⟩ x).heap[g]?=some (.cells #[a,b,c,x,e,f] T (0,0)):=dX h x
theorem lW (h:w.heap[g]?=some (.cells #[a,b,c,d,e,f] T (0,0))) (x:Value):(w.setCell ⟨g,4,none⟩ x).heap[g]?=some (.cells #[a,b,c,d,x,f] T (0,0)):=dX h x
theorem kO (h:w.heap[g]?=some (.cells #[a,b,c,d,e,f] T (0,0))) (x:Value):(w.setCell ⟨g,5,none⟩ x).heap[g]?=some (.cells #[a,b,c,d,e,x] T (0,0)):=dX h x
def dJ (w:World) (g:Nat) (a b c d e f:Value):World:=(((((w.setCell ⟨g,0,none⟩ a).setCell ⟨g,1,none⟩ b).setCell ⟨g,2,none⟩ c).setCell ⟨g,3,none⟩ d).setCell ⟨g,4,none⟩ e).setCell ⟨g,5,none⟩ f
theorem dG (h:w.heap[g]?=some (.cells #[a,b,c,d,e,f] T (0,0))) (m l j i k n:Value):(dJ w g m l j i k n).heap[g]?=some (.cells #[m,l,j,i,k,n] T (0,0)):=
 kO (lW (LC (LD (LF (LG h m) l) j) i) k) n
theorem aV (w:World) (g j:Nat) (v:Value):w.grownBy (w.setCell ⟨g,j,none⟩ v) (some g):=
 ⟨rfl,rfl,rfl,by simp,fun i b a=>heap_setCell_other w ⟨g,j,none⟩ i v (show i ≠ g from fun e=>a (by rw [e]))⟩
theorem aO (w:World) (g:Nat) (a b c d e f:Value):w.grownBy (dJ w g a b c d e f) (some g):=
 aJ (aJ (aJ (aJ (aJ (aV w g 0 a) (aV _ g 1 b)) (aV _ g 2 c)) (aV _ g 3 d)) (aV _ g 4 e)) (aV _ g 5 f)
end
theorem aT {f:Func} {Q:Ending→World→Prop} {a:Act} {w:World} {g c s:Nat} {x0 x1 x2 x3 x4 b v l u m o t r:Value} (h:w.heap[g]?=some (.cells #[l,u,m,o,t,r] 28 (0,0))) (d:f.results=#[.cell c 28,.tmp s]) (e:a.tmps.getD c undef=.pointer (some ⟨g,0,none⟩)) (i:a.tmps.getD s undef=v) (z:a.defers=[])
 (k:Q (.returned (.tuple #[.agg #[x0,x1,x2,x3,x4,b],v])) (dJ w g x0 x1 x2 x3 x4 b)):bodyPost prog f Q .ret a (dJ w g x0 x1 x2 x3 x4 b):=by
 refine Au (v:=.tuple #[.agg #[x0,x1,x2,x3,x4,b],v]) ?_ z k;obtain ⟨y,p,x,q,j,n⟩:=aA (dG h x0 x1 x2 x3 x4 b);obtain ⟨B,A⟩:=a;simp only [Array.getD_eq_getD_getElem?] at e i;simp [results,d,go_sem,e,i,y,p,x,q,j,n]
end Go.Proofs.YtncdpanfefnjlaaGreatDoor