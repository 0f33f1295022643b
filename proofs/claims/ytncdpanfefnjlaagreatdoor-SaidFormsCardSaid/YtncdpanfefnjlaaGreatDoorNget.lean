import Derived.Test.YtncdpanfefnjlaaGreatDoorJwn
import Derived.Test.YtncdpanfefnjlaaGreatDoorJsm
set_option linter.unusedVariables false
set_option linter.unusedSimpArgs false
set_option maxHeartbeats 3200000
set_option maxRecDepth 100000
namespace Go.Proofs.YtncdpanfefnjlaaGreatDoor
open Go.Proofs.Tryz
open Go Go.ChangeShapes Go.WideShapes Go.ChangeAt Go.RowKit
def DF (ns:List Bt) (s:Bt):Int:=match ns.findIdx? (fun t=>decide (t=s)) with
 | some i=>(i:Int)
 | none=>-1
theorem AY {S:Nat→Prop} (v:Value) (ns:List Bt) (s:Bt) (w:World) (h:bH S w v ns):Calls prog 42 #[v,.string s] w fun e w'=>e=.returned (Iz (DF ns s))∧w=w':=by
 obtain ⟨D,c1,r,I,B,-⟩:=id h;subst r;unfold maxLen at B;have H:=Hh h;clear h
 go_enter func42,ntmps42
 go_wp2
 go_loop [5,8] (fun E i=>∃j:Nat,i=Iz j∧j≤ns.length∧∀t,t ∈ ns.take j→t ≠ s) (fun _ i=>ns.length - (intOf i).toNat)
 case atStart=>exact ⟨0,rfl,Av _,fun t f=>by simp at f⟩
 case round=>
  obtain ⟨j,rfl,F,c⟩:=hrel
  by_cases g:j<ns.length
  ·have l:(j:Int)<(ns.length:Int):=by omega
   have y:(0:Int)≤(j:Int):=by omega
   obtain ⟨t,f⟩:∃t,ns[j]?=some t:=⟨_,Ac g⟩;obtain ⟨b,z,rfl,G,C⟩:=H.o.get f;have p:=Hh f;have m:=Hh c;clear f c
   by_cases a:s=t
   ·have A:(s.toList == t.toList)=true:=nH a
    have d:=Hh a;clear a
    go_wp2
    go_ret
    refine ⟨?_,rfl⟩;have n:ns.findIdx? (fun t=>decide (t=s))=some j:=by
     rw [List.findIdx?_eq_some_iff_getElem];refine ⟨g,?_,fun q J e=>?_⟩
     ·have:=p.o
      rw [Ac g] at this;rw [Ab this,d.o];exact Ap rfl
     ·refine m.o ns[q] ?_ (Ci e)
      rw [List.mem_take_iff_getElem];exact ⟨q,by omega,rfl⟩
    unfold DF;rw [n]
    rfl
   ·have A:(s.toList == t.toList)=false:=jE a
    have d:=Hh a;clear a
    go_wp2
    go_round
    case rel=>
     refine ⟨j+1,by go_num,by omega,fun u k=>?_⟩
     rw [Bf,p.o] at k;rcases Bg.1 k with k | k
     ·exact m.o u k
     ·simp at k;subst k;exact fun e=>d.o e.symm
    case measure=>simp [intOf];omega
  ·have l:¬ (j:Int)<(ns.length:Int):=by omega
   have n:ns.findIdx? (fun t=>decide (t=s))=none:=by
    rw [List.findIdx?_eq_none_iff];rw [Ak (by omega)] at c
    exact fun t f=>Ar (c t f)
   have x:=Hh n;clear c n
   go_wp2
   go_ret
   refine ⟨?_,rfl⟩;unfold DF;rw [x.o]
   rfl
def aGb (a:TypeId) (d:Nat) (S:Nat→Prop) (w:World) (its:List ND) (e:Ending) (w':World):Prop:=∃ (v:Value) (A:List NC),e=.returned v∧w'.ownsRow w.heap.size a 6 v A.length (cM A)∧aG A=its∧(∀y,y ∈ A→aD d S w y.1 y.2)∧Below w.heap.size w w'
theorem cE.cells {d:Nat} {S:Nat→Prop} {w:World} {a:Addr} {l z:Nat} {its:List ND} (h:cE (aD d S w) S w (.slice (some a) l z) its):l=its.length∧∃A:List NC,aG A=its∧A.length=its.length∧(∀y,y ∈ A→aD d S w y.1 y.2)∧∀j u,(cM A)[j]?=some u→w.cell? (a.add j)=some u:=by
 obtain ⟨G,D,e,H,I,F⟩:=h;cases e;refine ⟨rfl,?_⟩
 -- the six cells of each element, chosen
 have v:∀j,j<its.length→∃k,aD d S w k (its.getD j nd0)∧∃b c,a=⟨b,c,none⟩∧∀f u,k[f]?=some u→w.cell? ⟨b,c+j * 6+f,none⟩=some u:=by
  intro j i;obtain ⟨b,c,k,e,K,r,s⟩:=F j _ (Ac i);cases e;exact ⟨k,by rw [Cv,Ac i];exact s,b,c,rfl,r⟩
 have m:∀n,n≤its.length→∃A:List NC,aG A=its.take n∧A.length=n∧(∀y,y ∈ A→aD d S w y.1 y.2)∧∀j u,(cM A)[j]?=some u→w.cell? (a.add j)=some u:=by
  intro n
  induction n with
  | zero=>exact fun _=>⟨[],rfl,rfl,(fun y g=>by cases g),fun j u h=>by simp [cM] at h⟩
  | succ n ih=>
   intro J;obtain ⟨A,q,p,o,x⟩:=ih (by omega)
   obtain ⟨k,s,b,c,rfl,r⟩:=v n (by omega)
   have E:∀y,y ∈ A→y.1.length=6:=fun y g=>(o y g).len
   have C:=iL A E;refine ⟨A++[(k,its.getD n nd0)],?_,by simp [p],?_,?_⟩
   ·rw [Bf,←q,Cv,Ac (by omega:n<its.length)]
    simp [aG]
   ·intro y g
    rcases Bg.1 g with g | g
    ·exact o y g
    ·cases At.1 g;exact s
   ·intro j u i
    rw [kJ] at i;rcases Cf j (cM A).length with t | B
    ·rw [Cs t] at i;exact x j u i
    ·rw [Dr B,C,p] at i
     have:=r (j - n * 6) u (by simpa [cM] using i)
     rw [Bs,show c+j=c+n * 6+(j - n * 6) by omega]
     exact this
 obtain ⟨A,q,p,o,x⟩:=m its.length (Lr _);rw [List.take_length] at q;exact ⟨A,q,p,o,x⟩
theorem ZV {d:Nat} {S:Nat→Prop} (v:Value) (its:List ND) (w:World) (h:cE (aD d S w) S w v its) (hl:its.length≤1000000):Calls prog 49 #[v] w (aGb 28 d S w its):=by
 obtain ⟨V,n,L,G,H⟩:=rE;have B:=underlying26;have X:=Hh n;clear n;obtain ⟨R,M,T,p1,p2,J⟩:=id h;subst T;unfold maxLen at p2;cases R with
 | none=>
  have he:its=[]:=by
   cases its with
   | nil=>rfl
   | cons x t=>obtain ⟨_,_,_,h,_⟩:=J 0 x rfl;cases h
  subst he;clear h J;have Y:=fun (F:World)=>Lib.run_eql_slice_nil (P:=prog) F 26
  go_enter func49,ntmps49
  go_wp2
  go_ret
  exact ⟨_,[],rfl,Dk _ _ _ _,rfl,(fun y l=>by cases l),Br _ _⟩
 | some a=>
  obtain ⟨-,A,p,i,b,f⟩:=h.cells;have Y:=fun (F:World)=>Lib.run_eql_slice_nil (P:=prog) F 26
  have z:=(Br w.heap.size w).alloc (o:=.cells #[] 28) (Lr _);have O:=Ed (base:=w.heap.size) (size:=6) (e:=28) w #[] 0 (Lr _) (by decide) rfl
  have c:∀u ∈ cM A,u.oneCell'=true:=by
   intro u I;obtain ⟨y,l,I⟩:=List.mem_flatMap.1 I;exact (b y l).one u I
  have m:∀j u,(cM A)[j]?=some u→(w.alloc (.cells #[] 28)).cell? (a.add j)=some u:=fun j u N=>(z.cell (cD (f j u N))).trans (f j u N)
  have Q:=Hh O;have E:=Hh m;have q:=Hh c;have C:=Hh (iL A fun y l=>(b y l).len)
  have K:=Hh p;have k:=Hh i;have D:=Hh b;have W:=Hh z;have r:=z.size;clear h J p i b f O c m z
  go_enter func49,ntmps49
  go_wp2_with ((refine wpList_append_own_at _ rfl (.tmp 5) (.tmp 6) 26 rfl w.heap.size 28 V (.agg Z6) 6 88 B X.o L G H rfl (by decide) (.slice (some ⟨w.heap.size,0,none⟩) 0 0) 0 [] rfl Q.o a its.length M (cM A) rfl (by rw [C.o,k.o]) E.o q.o (by unfold maxLen;omega) (by omega) r ?_);intro v' w2 s g U Z)
  go_ret
  refine ⟨_,A,rfl,?_,K.o,D.o,?_⟩
  ·rw [k.o]
   simpa using s
  ·exact iG W.o Q.o g r
theorem rS:∀ (A:List NC) (i:Nat) (a b c d e f:Value) (x:ND),(∀y,y ∈ A→y.1.length=6)→i<A.length→((((((cM A).set (i * 6) a).set (i * 6+1) b).set (i * 6+2) c).set (i * 6+3) d).set (i * 6+4) e).set (i * 6+5) f=cM (A.set i ([a,b,c,d,e,f],x))
 | [],i,_,_,_,_,_,_,_,_,h=>by simp at h
 | y::t,0,a,b,c,d,e,f,x,h6,h=>by
  obtain ⟨s,r,n,o,q,p,g⟩:∃a b c d e f,y.1=[a,b,c,d,e,f]:=by
   have:=h6 y (by simp)
   match hq:y.1,this with
   | [a,b,c,d,e,f],_=>exact ⟨_,_,_,_,_,_,rfl⟩
  simp [cM,g]
 | y::t,i+1,a,b,c,d,e,f,x,h6,h=>by
  have k:=rS t i a b c d e f x (fun z j=>h6 z (by simp [j])) (by simpa using h)
  have g:=h6 y (by simp)
  have l:cM (y::t)=y.1++cM t:=by simp [cM]
  have m:cM ((y::t).set (i+1) ([a,b,c,d,e,f],x))=y.1++cM (t.set i ([a,b,c,d,e,f],x)):=by simp [cM]
  rw [l,m,←k];rw [show (i+1) * 6=i * 6+6 by omega]
  rw [Df _ _ (by omega),Df _ _ (by omega),Df _ _ (by omega),Df _ _ (by omega),Df _ _ (by omega),Df _ _ (by omega),g]
  congr 1
theorem wW (A:List NC) (i:Nat) (a:Vl) (x:ND):aG (A.set i (a,x))=(aG A).set i x:=by simp [aG,List.map_set]
theorem LX {w:World} {base:Nat} {e:TypeId} {g n j:Nat} {l:Vl} (h:w.ownsRow base e 6 (.slice (some ⟨g,0,none⟩) n j) n l) (i:Nat) (a b c d k f:Value) :
 ((((((w.setCell ⟨g,i * 6,none⟩ a).setCell ⟨g,i * 6+1,none⟩ b).setCell ⟨g,i * 6+2,none⟩ c).setCell ⟨g,i * 6+3,none⟩ d).setCell ⟨g,i * 6+4,none⟩ k).setCell ⟨g,i * 6+5,none⟩ f).ownsRow base e 6 (.slice (some ⟨g,0,none⟩) n j) n ((((((l.set (i * 6) a).set (i * 6+1) b).set (i * 6+2) c).set (i * 6+3) d).set (i * 6+4) k).set (i * 6+5) f):=
 ((((((h.stored (i * 6) a).1.stored (i * 6+1) b).1.stored (i * 6+2) c).1.stored (i * 6+3) d).1.stored (i * 6+4) k).1.stored (i * 6+5) f).1
theorem zI (w:World) (g o:Nat) (a b c d e f:Value):w.grownBy ((((((w.setCell ⟨g,o,none⟩ a).setCell ⟨g,o+1,none⟩ b).setCell ⟨g,o+2,none⟩ c).setCell ⟨g,o+3,none⟩ d).setCell ⟨g,o+4,none⟩ e).setCell ⟨g,o+5,none⟩ f) (some g):=
 aJ (aJ (aJ (aJ (aJ (aV w g o a) (aV _ g (o+1) b)) (aV _ g (o+2) c)) (aV _ g (o+3) d)) (aV _ g (o+4) e)) (aV _ g (o+5) f)
section
variable {TN TS:TypeId} {d:Nat} {S:Nat→Prop} {w wx wn:World} {gb:Nat} {cv:Vl} {vn vi:Value} {ns:List Bt} {A:List NC}
end
theorem jS.base {i:TypeId} {b f:Nat} {w:World} {v:Value} {ns:List Bt} (h:jS i b w v ns) (l:f≤b):jS i f w v ns:=by
 obtain ⟨⟨d,k | ⟨g,a,c,j,m,r⟩⟩,e⟩:=h
 ·exact ⟨⟨d,.inl k⟩,e⟩
 ·exact ⟨⟨d,.inr ⟨g,a,c,j,by omega,r⟩⟩,e⟩
theorem tF {w:World} {b:Nat} {e:TypeId} {size n:Nat} {v:Value} {i:Vl} (h:w.ownsRow b e size v n i):∃a c,v=.slice a n c:=by
 rcases h.2 with ⟨rfl,f⟩ | ⟨g,d,j,rfl,_⟩
 ·exact ⟨none,0,by rw [f]⟩
 ·exact ⟨_,d,rfl⟩
theorem gN (s:Bt) (w:World):Calls prog 50 #[.string s] w fun e w'=>e=.returned (.agg #[Iz 3,.bool false,Iz 0,.string s,Sn,Sn])∧Below w.heap.size w w':=by
 go_enter func50,ntmps50
 go_wp2
 refine Au (v:=.agg #[Iz 3,.bool false,Iz 0,.string s,Sn,Sn]) ?_ ?_ ?_;rotate_left
 ·rfl
 ·exact ⟨rfl,(Br _ _).alloc (Lr _) _⟩
 ·obtain ⟨f,d,c,g,b,a⟩:=aA (Hn w (.cells #[Iz 3,.bool false,Iz 0,.string s,Sn,Sn] 28))
  simp [results,results50,go_sem,f,d,c,g,b,a]
theorem tI (z:Int) (w:World):Calls prog 171 #[Iz z] w fun e w'=>e=.returned (.agg #[Iz 2,.bool false,Iz z,.string ⟨#[]⟩,Sn,Sn])∧Below w.heap.size w w':=by
 go_enter func171,ntmps171
 go_wp2
 refine Au (v:=.agg #[Iz 2,.bool false,Iz z,.string ⟨#[]⟩,Sn,Sn]) ?_ ?_ ?_;rotate_left
 ·rfl
 ·exact ⟨rfl,(Br _ _).alloc (Lr _) _⟩
 ·obtain ⟨f,d,c,g,b,a⟩:=aA (Hn w (.cells #[Iz 2,.bool false,Iz z,.string ⟨#[]⟩,Sn,Sn] 28))
  simp [results,results171,go_sem,f,d,c,g,b,a]
theorem aCj (d:Nat) (S:Nat→Prop) (v V:Value) (ns:List Bt) (its:List ND) (w:World) (h:cE (aD d S w) S w V its) (K:bH S w v ns) (x:∀b,S b→b<w.heap.size) (Y:its.length≤1000000) (F:ns.length≤1000000) (r:∀y,y ∈ its→jZ d y):Calls prog 47 #[v,V] w (oB (d+1) w (.mk 5 false 0 ⟨#[]⟩ ns its)):=by
 obtain ⟨ao,xb,rfl,h1,h2,h3⟩:=id h;obtain ⟨an,U,rfl,n1,n2,n3⟩:=id K;have m:=(Br w.heap.size w).alloc (o:=.cells Z6 28) (Lr _);obtain ⟨C,l⟩:∃W,W=w.alloc (.cells Z6 28):=⟨_,rfl⟩;have J:=Hn w (.cells Z6 28);have A:C.heap.size=w.heap.size+1:=by rw [l];simp
 rw [←l] at m J;have CT:=Hh (BT _ ns C (K.same fun b a=>m.block b (x b a)) F)
 have CI:=Hh (fun (R:World) (a:Below C.heap.size C R)=>TC d S _ its R (h.same (fun b g=>(a.block b (Ll (x b g) m.size)).trans (m.block b (x b g))) fun N y q=>q.same fun b g=>(a.block b (Ll (x b g) m.size)).trans (m.block b (x b g))) (fun b g=>Ll (Ll (x b g) m.size) a.size) Y r)
 have X:=Hh m;have D:=Hh J;have HZ:=Hh A;clear h K x Y F r h3 n3 m J A
 go_enter func47,ntmps47
 go_upto_region 1 with fail
 rw [←l];clear l
 go_wp2_with (first
  | (go_at_call 83;(with_reducible refine (CT.o).mono ?_);rintro e u ⟨v1,rfl,B,Z,f,O⟩;obtain ⟨t,c3,rfl,E⟩:=B)
  | (go_at_call 84;(with_reducible refine (CI.o _ f).mono ?_);rintro e n ⟨v2,rfl,z,i⟩;obtain ⟨p,s,rfl,G⟩:=z;(have k:=(i.block _ (Ll (Aa D.o) f.size)).trans ((f.block _ (Aa D.o)).trans D.o));(have f3:=aE k);(have xc:=aA k);clear k))
 have z:cE (aD d (Fr u.heap.size n) n) (Fr u.heap.size n) n (.slice p its.length s) its:=⟨p,s,rfl,G⟩;have B:bH (Fr C.heap.size u) u (.slice t ns.length c3) ns:=⟨t,c3,rfl,E⟩;have k:=(i.block _ (Ll (Aa D.o) f.size)).trans ((f.block _ (Aa D.o)).trans D.o);have H:=dG k (Iz 5) (.bool false) (Iz 0) (.string ⟨#[]⟩) (.slice t ns.length c3) (.slice p its.length s);have c:=aO n w.heap.size (Iz 5) (.bool false) (Iz 0) (.string ⟨#[]⟩) (.slice t ns.length c3) (.slice p its.length s);have A:=HZ.o;have xa:=f.size;refine Au (v:=.agg #[Iz 5,.bool false,Iz 0,.string ⟨#[]⟩,.slice t ns.length c3,.slice p its.length s]) ?_ ?_ ?_;rotate_left
 ·rfl
 ·have M:∀b,Fr C.heap.size u b→(dJ n w.heap.size (Iz 5) (.bool false) (Iz 0) (.string ⟨#[]⟩) (.slice t ns.length c3) (.slice p its.length s)).heap[b]?=u.heap[b]?:=fun b a=>(c.block b (Ll a.2.1 i.size) (by intro e;have:=Ab e;have:=a.1;omega)).trans (i.block b a.2.1)
  have I:∀b,Fr u.heap.size n b→(dJ n w.heap.size (Iz 5) (.bool false) (Iz 0) (.string ⟨#[]⟩) (.slice t ns.length c3) (.slice p its.length s)).heap[b]?=n.heap[b]?:=fun b a=>c.block b a.2.1 (by intro e;have:=Ab e;have:=a.1;omega)
  refine ⟨[Iz 5,.bool false,Iz 0,.string ⟨#[]⟩,.slice t ns.length c3,.slice p its.length s],rfl,⟨_,_,rfl,Av _,?_,?_⟩,?_⟩
  ·exact (B.same M).mono fun b a=>a.move (M b a) (by omega) (Af i.size c.size)
  ·exact (z.same I fun N y q=>q.same I).mono (fun b a=>a.move (I b a) (by omega) c.size) fun N y q=>q.mono fun b a=>a.move (I b a) (by omega) c.size
  ·have j:=X.o.trans ((f.trans (i.mono f.size)).mono X.o.size)
   exact ⟨c.os.trans j.os,c.tape.trans j.tape,c.output.trans j.output,Af j.size c.size,fun b a=>(c.block b (Ll a j.size) (by intro e;have:=Ab e;omega)).trans (j.block b a)⟩
 ·obtain ⟨q0,Q,q2,T,L,P⟩:=aA H
  simp only [dJ] at q0 Q q2 T L P;simp [results,results47,go_sem,q0,Q,q2,T,L,P]
theorem VW {l:Ub} {x:ND} (h:jC l=some x):x=.mk x.kind x.bool 0 ⟨#[]⟩ [] []:=by
 unfold jC at h
 split at h
 ·cases h;rfl
 ·split at h
  ·cases h;rfl
  ·split at h
   ·cases h;rfl
   ·cases h
def xP (V:ND→Ub→Prop) (d:Nat) (g h i:Nat) (r:Ub) (w:World) (e:Ending) (w':World):Prop:=∃ (f:Vl) (x:ND) (c:Bool) (a:Ub),e=.returned (.tuple #[.agg f.toArray,.bool c])∧aD (d+1) (fun b=>w.heap.size≤b∧b<w'.heap.size) w' f x∧PrS w' g h i a∧w.grownBy w' (some g)∧a.length≤r.length∧(iM (d+1) x∧aP (d+1) x=true)∧∀y t,V y t→c=true∧x=y∧a=t
theorem jJ {V:ND→Ub→Prop} {d g i l:Nat} {r e:Ub} {w c:World} {T:TypeId} (k:Int) (b:Bool) (z:Int) (t:Bt) (f:Bool) (u:PrS c g i l e) (n:w.grownBy c (some g)) (h:g<w.heap.size) (o:e.length≤r.length) (s:t.size≤maxLen - 2) (m:dD z=true)
 (p:∀y j,V y j→f=true∧(.mk k b z t [] [])=y∧e=j) :
 xP V d g i l r w (.returned (.tuple #[.agg #[Iz k,.bool b,Iz z,.string t,Sn,Sn],.bool f])) (dJ c w.heap.size (Iz k) (.bool b) (Iz z) (.string t) (Sn) (Sn)):=by
 have a:=aO c w.heap.size (Iz k) (.bool b) (Iz z) (.string t) (Sn) (Sn);exact ⟨[Iz k,.bool b,Iz z,.string t,Sn,Sn],_,f,e,rfl,(cJ _ _ k b z t s).deeper (by omega),u.kept a h,gO n a (Lr _),o,⟨⟨by simp [ND.items],fun y q=>by simp [ND.items] at q⟩,by unfold aP;show (dD z && _)=true;rw [m];rfl⟩,p⟩
theorem aFf {g mw mc:Nat} {r:Ub} (w:World) (h:PrS w g mw mc r) (hr:r.length≤100000):Calls prog 166 #[.pointer (some ⟨g,0,none⟩)] w (xP (fun y t=>wC r y t) 0 g mw mc r w):=by
 have X:=h.lt;have xk:=(Br w.heap.size w).alloc (o:=.cells Z6 28) (Lr _);have h0:=h.below xk;have xd:=Hn w (.cells Z6 28);have xf:=dV w (.cells Z6 28) (some g);have U:Hid (∀wx:World,PrS wx g mw mc r→Calls prog 191 #[.pointer (some ⟨g,0,none⟩),.string ⟨#[44,93,125]⟩] wx (fG g mw mc wx (.string (bA (kN hG r))) (gC hG r))):=Hh fun wx hx=>DY ⟨#[44,93,125]⟩ wx hx (by decide) (by decide) (by omega) (by
  intro j b G;have G:([44,93,125]:Ub)[j]?=some b:=G
  match j,G with
  | 0,G=>cases G;decide
  | 1,G=>cases G;decide
  | 2,G=>cases G;decide
  | j+3,G=>simp at G)
 have xc:=KU hG r;have F:∀y t,wC r y t→gC hG r=t∧(jC (kN hG r)=some y∨(jC (kN hG r)=none∧∃u:Int,Lib.atoiAll (kN hG r)=.ok u∧y=.mk 2 false u ⟨#[]⟩ [] [])):=fun y t h=>h
 generalize wC r=BI at F ⊢;generalize kN hG r=u at U xc F;generalize gC hG r=f at U xc F
 have M:=Hh F;clear h xk F
 go_enter func166,ntmps166
 go_upto_region 1 with fail
 generalize w.alloc (.cells Z6 28)=w0 at h0 xd xf ⊢
 go_upto_region 2 with ((with_reducible refine (U.o _ h0).mono ?_);rintro e z ⟨rfl,I,xb⟩)
 have xr:=cP xb (by omega) xd
 have R:=aJ xf xb;have a:=I.2.1.look (s:=bA u) (by rw [jP];unfold maxLen;omega)
 rw [nY] at a;have cm:z.cell? ⟨g,1,none⟩=some (.map (some mw)):=aL I.1 rfl;have N:=Hh (Ai I R);have D:=Hh xr;have xa:f.length≤r.length:=by omega
 have xs:u.length≤r.length:=by omega
 clear h0 xd xf xb I R xr U xc;cases hw:jC u with
 | some x=>
  rw [hw] at a;have hx:=VW hw;have hV:∀y q,BI y q→true=true∧(.mk x.kind x.bool 0 ⟨#[]⟩ [] [])=y∧f=q:=fun y q hb=>by
   obtain ⟨e1,B⟩:=M.o y q hb;rw [hw] at B;rcases B with B | ⟨B,-⟩
   ·cases B;exact ⟨rfl,hx.symm,e1⟩
   ·cases B
  have HV:=Hh hV;clear hV hx hw M;simp only [Option.getD_some,Option.isSome_some,fY] at a;generalize x.kind=k at HV a;generalize x.bool=b at HV a;have bN:=(Br z.heap.size z).alloc (o:=.cells #[Iz k,.bool b,Iz 0,.string ⟨#[]⟩,Sn,Sn] 28) (Lr _);have i:=N.o.1.below bN;have l:=aJ N.o.2 (dV z (.cells #[Iz k,.bool b,Iz 0,.string ⟨#[]⟩,Sn,Sn] 28) (some g));have c:(z.alloc (.cells #[Iz k,.bool b,Iz 0,.string ⟨#[]⟩,Sn,Sn] 28)).heap[w.heap.size]?=_:=(bN.block _ (Aa D.o)).trans D.o;have Y:=Hn z (.cells #[Iz k,.bool b,Iz 0,.string ⟨#[]⟩,Sn,Sn] 28);obtain ⟨W2,m⟩:∃W,W=z.alloc (.cells #[Iz k,.bool b,Iz 0,.string ⟨#[]⟩,Sn,Sn] 28):=⟨_,rfl⟩;have xt:¬w.heap.size=z.heap.size:=by have:=Aa D.o;omega
  rw [←m] at i l c Y;clear bN
  go_upto_region 3 with fail
  rw [←m];clear m a cm;have f1:=aE c;have c1:=aA c;have c2:=aA Y;have E:=Hh c;have C:=Hh (Ai i l);clear c Y i l
  go_wp2
  refine aT (v:=.bool true) E.o results166 rfl rfl rfl ?_;exact jJ (T:=0) k b 0 ⟨#[]⟩ true C.o.1 C.o.2 X xa (by decide) (by decide) (fun y q h=>⟨rfl,(HV.o y q h).2⟩)
 | none=>
  rw [hw] at a;simp only [Option.getD_none,Option.isSome_none,fY,nd0,ND.kind,ND.bool] at a;have hV:∀ (v:Int) (S:Bool) (hh:∀n,Lib.atoiAll u=.ok n→v=n∧S=true),∀y q,BI y q→S=true∧(.mk 2 false v ⟨#[]⟩ [] [])=y∧f=q:=fun v S hh y q hb=>by
   obtain ⟨e1,B⟩:=M.o y q hb;rw [hw] at B;rcases B with B | ⟨-,n,B,rfl⟩
   ·cases B
   ·obtain ⟨rfl,h2⟩:=hh n B;exact ⟨h2,rfl,e1⟩
  have HV:=Hh hV;clear hV hw M;have bN:=(Br z.heap.size z).alloc (o:=.cells Z6 28) (Lr _);have i:=N.o.1.below bN;have l:=aJ N.o.2 (dV z (.cells Z6 28) (some g));have c:(z.alloc (.cells Z6 28)).heap[w.heap.size]?=_:=(bN.block _ (Aa D.o)).trans D.o;obtain ⟨W2,m⟩:∃W,W=z.alloc (.cells Z6 28):=⟨_,rfl⟩;rw [←m] at i l c;clear bN;have A:=Hh (aFi (bA u) W2 (by rw [jP];omega) i.2.2.2.2.1)
  go_upto_region 3 with fail
  rw [←m];clear m a cm;have E:=Hh c;have C:=Hh (Ai i l);clear c i l
  go_upto_region 6 with ((with_reducible refine (A.o).mono ?_);rintro e w3 ⟨v,ev,rfl,xn,xo,L,Q⟩)
  have xh:=C.o.1.below Q;have xi:=aJ C.o.2 (aK Q (Lr _) _);have Z:=(Q.block _ (Aa E.o)).trans E.o;rw [nY] at L;have xq:=Hh xn;have bd:=(Br w3.heap.size w3).drew;have V:=xh.below bd;have xe:=aJ xi (aK bd (Lr _) _);have H:w3.drew.heap[w.heap.size]?=_:=(bd.block _ (Aa Z)).trans Z;clear Q C E xh xi Z xn bd A;obtain ⟨S,xj⟩:∃S:Bool,(ev=.nilIface∧S=true)∨((∃t p,ev=.iface t p)∧S=false):=by
   rcases xo with h | h
   ·exact ⟨true,.inl ⟨h,rfl⟩⟩
   ·exact ⟨false,.inr ⟨h,rfl⟩⟩
  have xg:=Hh (HV.o v S fun n hn=>⟨(L n hn).1,by
   rcases xj with h | ⟨⟨t,p,h⟩,-⟩
   ·exact h.2
   ·have:=(L n hn).2;rw [h] at this;cases this⟩)
  clear L xo HV;rcases xj with ⟨rfl,rfl⟩ | ⟨⟨te,pe,rfl⟩,rfl⟩
  all_goals
   refine aI (fun w'=>True) [] (.take 0 (.take 2 (.take 3 (.ask 1 false (.ask 4 false (.take 5 .stop) .stop) .stop)))) (by kernel_rfl) (by kernel_rfl) (fun _ d _ _ _ h=>by cases d <;> exact h) trivial ?_
   generalize w3.drew=w4 at V xe H ⊢
   iterate 3 (refine aF _ ?_ rfl rfl ?_ (fun K hK=>?_);rotate_left;(intro w0;go_simp;(try rfl));(go_simp;refine hK _ ?_;clear hK K))
   refine aB _ rfl trivial ?_
   go_wp2_with (go_at_call 171;(with_reducible refine (tI v w4).mono ?_);rintro e w5 ⟨rfl,P⟩)
   refine Seg.mk ?_;have J:=(P.block _ (Aa H)).trans H;have xm:=V.below P;have xl:=aJ xe (aK P (Lr _) _);have f5:=aE J;have c5:=aA J;have xp:=Hh J;have O:=Hh (Ai xm xl);clear H V xe P J xm xl;refine aB _ rfl trivial ?_
   go_wp2_with fail
   refine Seg.mk ?_;refine aF _ ?_ rfl rfl ?_ (fun K hK=>?_);rotate_left;(intro w0;go_simp;(try rfl));(go_simp;refine hK _ ?_;clear hK K)
   unfold cQ
   go_wp2_with fail
  ·refine aT (v:=.bool true) xp.o results166 rfl rfl rfl ?_
   exact jJ (T:=0) 2 false v ⟨#[]⟩ true O.o.1 O.o.2 X xa (by decide) xq.o (fun y q h=>⟨rfl,(xg.o y q h).2⟩)
  ·refine aT (v:=.bool false) xp.o results166 rfl rfl rfl ?_
   exact jJ (T:=0) 2 false v ⟨#[]⟩ false O.o.1 O.o.2 X xa (by decide) xq.o (fun y q h=>by have:=xg.o y q h;simp at this)
def TQ (r s t:Ub):Prop:=∃q,r=34::q∧dA q=some (s,58::t)
def aFr (g c d:Nat) (r:Ub) (w:World) (e:Ending) (w':World):Prop:=∃ (s:Ub) (b:Bool) (a:Ub),e=.returned (.tuple #[.string (bA s),.bool b])∧PrS w' g c d a∧w.grownBy w' (some g)∧s.length≤r.length∧a.length≤r.length∧∀x t,TQ r x t→b=true∧s=x∧a=t
theorem aCk {g i j:Nat} {r:Ub} (w:World) (h:PrS w g i j r) (R:r.length≤100000):Calls prog 190 #[.pointer (some ⟨g,0,none⟩)] w (aFr g i j r w):=by
 have S:=dO ⟨#[34]⟩ w h;rw [show (⟨#[34]⟩:Bt).data.toList=[34] from rfl] at S
 cases hp:Lib.hasPrefix r [34] with
 | false=>
  rw [hp,fP hp] at S;have D:Hid (Calls prog _ _ w (fG g i j w (.bool false) r)):=S;have K:=Hh hp;clear S h hp
  go_enter func190,ntmps190
  go_wp2_with (go_at_call 163;(with_reducible refine (D.o).mono ?_);rintro e L ⟨rfl,f,a⟩)
  go_ret2
  exact ⟨[],false,r,rfl,f,a,Av _,Lr _,fun x t ⟨q,e,_⟩=>by
   have:=K.o;rw [e,tP] at this;cases this⟩
 | true=>
  rw [hp,iU hp] at S;have c:=eG hp;obtain ⟨q,F⟩:∃q,q=r.drop 1:=⟨_,rfl⟩;have d:r=34::q:=by rw [F];exact c
  clear c;have D:Hid (Calls prog 163 #[.pointer (some ⟨g,0,none⟩),.string ⟨#[34]⟩] w (fG g i j w (.bool true) q)):=by rw [F];exact S
  have M:q.length+1=r.length:=by rw [d];rfl
  have Q:=Hh (fun (H:World) (u:PrS H g i j q)=>wT H u (by omega))
  have B:=Hh d;clear S h hp F d
  go_enter func190,ntmps190
  go_upto_region 4 with (first
   | (go_at_call 163;(with_reducible refine (D.o).mono ?_);rintro e L ⟨rfl,f,a⟩)
   | (go_at_call 165;(with_reducible refine (Q.o _ f).mono ?_);rintro e z ⟨s,I,k,rfl,m,l,J,p⟩))
  have n:=Hh p;clear p;have y:=dO ⟨#[58]⟩ z m;rw [show (⟨#[58]⟩:Bt).data.toList=[58] from rfl] at y
  have O:Hid (Calls prog 163 #[.pointer (some ⟨g,0,none⟩),.string ⟨#[58]⟩] z (fG g i j z (.bool (Lib.hasPrefix k [58])) (Lib.trimPrefix k [58]))):=y;have b:∀x t,TQ r x t→I=true∧s=x∧k=58::t:=fun x t ⟨P,v,E⟩=>by
   rw [B.o] at v;cases v;exact n.o x _ E
  have G:=Hh b;clear y b n;cases I with
  | false=>
   go_wp2
   go_ret2
   exact ⟨s,false,k,rfl,m,aJ a l,by omega,by omega,fun x t u=>by have:=(G.o x t u).1;cases this⟩
  | true=>
   have N:(Lib.trimPrefix k [58]).length≤k.length:=by
    unfold Lib.trimPrefix
    split
    ·rw [Ce];omega
    ·exact Lr _
   go_wp2_with (go_at_call 163;(with_reducible refine (O.o).mono ?_);rintro e T ⟨rfl,C,A⟩)
   go_ret2
   exact ⟨s,_,_,rfl,C,aJ a (aJ l A),by omega,by omega,fun x t u=>by
    obtain ⟨-,v,E⟩:=G.o x t u;subst E;exact ⟨by rw [tP];rfl,v,aBe 58 t⟩⟩
def TR (d:Nat) (w:World) (o:Option ND) (e:Ending) (w':World):Prop:=∃a:Vl,e=.returned (.tuple #[.agg a.toArray,.bool o.isSome])∧aD (d+1) (Fr w.heap.size w') w' a (o.getD nd0)∧Below w.heap.size w w'
theorem AM {d:Nat} {S:Nat→Prop} (cs:Vl) (x:ND) (s:Bt) (w:World) (h:aD (d+1) S w cs x) (u:∀b,S b→b<w.heap.size) (hk:x.kind=5) (j:x.names.length=x.items.length) (f:jZ (d+1) x) :
 Calls prog 30 #[.agg cs.toArray,.string s] w (TR d w (eY x s)):=by
 obtain ⟨a1,l1,c1,U,Y,c2,rfl⟩:=h.slices;have H:eY x s=(x.names.findIdx? (fun t=>decide (t=s))).bind fun i=>x.items[i]?:=by unfold eY;rw [Am hk]
 rw [hk] at h ⊢;obtain ⟨r,c⟩:∃W,W=(w.alloc (.cells #[Iz 5,.bool x.bool,Iz x.num,.string x.text,.slice a1 l1 c1,.slice U Y c2] 28)).alloc (.cells Z6 28):=⟨_,rfl⟩;have z1:(w.alloc (.cells #[Iz 5,.bool x.bool,Iz x.num,.string x.text,.slice a1 l1 c1,.slice U Y c2] 28)).heap.size=w.heap.size+1:=by simp
 have z:Below w.heap.size w r:=by rw [c];exact ((Br _ _).alloc (Lr _) _).alloc (by simp) _
 have k0:r.heap[w.heap.size]?=some (.cells #[Iz 5,.bool x.bool,Iz x.num,.string x.text,.slice a1 l1 c1,.slice U Y c2] 28 (0,0)):=by rw [c];exact (Bj _ _ _ (by omega)).trans (Hn _ _)
 have X:r.heap[w.heap.size+1]?=some (.cells Z6 28 (0,0)):=by
  have:=Hn (w.alloc (.cells #[Iz 5,.bool x.bool,Iz x.num,.string x.text,.slice a1 l1 c1,.slice U Y c2] 28)) (.cells Z6 28);rw [z1] at this;rw [c];exact this
 have z2:r.heap.size=w.heap.size+2:=by rw [c];simp
 obtain ⟨vn,vi,e,-,B,C⟩:=h;simp only [Bu,Dd,Dj] at e;obtain ⟨-,rfl,rfl⟩:=e;have n:=B.same fun b g=>z.block b (u b g)
 have a:cE (aD d S r) S r (.slice U Y c2) x.items:=C.same (fun b g=>z.block b (u b g)) fun cs y q=>q.same fun b g=>z.block b (u b g)
 obtain ⟨xk,xb,e2,r1,r2,-⟩:=id a;cases e2;have IX:=Hh (AY _ _ s r n);have c0:=aA k0;have f1:=aE X;have t1:=aA X;have xg:=Hh a;have R:=Hh X;have B1:=Hh z;have Z2:=Hh z2;have HS:=Hh u;have HL:=Hh f;have xc:=Hh j;have xi:x.items.length≤maxLen:=by omega
 cases hf:x.names.findIdx? (fun t=>decide (t=s)) with
 | none=>
  have O:DF x.names s=-1:=by unfold DF;rw [hf]
  rw [hf] at H;rw [O] at IX;rw [H];clear B n C a z k0 z1 z2 u f j hf O H hk r1 r2 X
  go_enter func30,ntmps30
  go_upto_region 1 with fail
  rw [←c];clear c
  go_wp2_with (go_at_call 42;(with_reducible refine (IX.o).mono ?_);rintro e D ⟨rfl,rfl⟩)
  have l:=dG R.o (Iz 0) (.bool false) (Iz 0) (.string ⟨#[]⟩) (Sn) (Sn);have m:=aO r (w.heap.size+1) (Iz 0) (.bool false) (Iz 0) (.string ⟨#[]⟩) (Sn) (Sn);have k:=B1.o;refine Au (v:=.tuple #[.agg Z6,.bool false]) ?_ ?_ ?_;rotate_left
  ·rfl
  ·exact ⟨Y6,rfl,(cJ _ _ 0 false 0 ⟨#[]⟩ (by decide)).deeper (by omega),k.grown m k.size (fun b e=>by have:=Ab e;omega)⟩
  ·obtain ⟨K,J,E,I,G,F⟩:=aA l
   simp only [dJ] at K J E I G F;simp [results,results30,go_sem,K,J,E,I,G,F]
 | some i=>
  have O:DF x.names s=(i:Int):=by unfold DF;rw [hf]
  have Z:i<x.items.length:=by
   have:=dT (fM hf).1;omega
  rw [hf] at H;have xa:(i:Int)<(x.items.length:Int):=by omega
  have xe:(0:Int)≤(i:Int):=by omega
  rw [O] at IX;obtain ⟨-,-,-,b,xj,y,xd,m1,n1,xm,m2,n2,rfl,xl,hx,Q,K,J,E,I,G,F⟩:=a.at Z;have T:eY x s=some y:=H.trans hx;rw [T];have CC:=Hh (vT d S _ y r Q (fun b g=>Ll (u b g) z.size) (f.2.2 y (Ao hx)))
  clear B n C a z k0 z1 z2 u f j hf O H hk r1 r2 X Z hx Q T
  go_enter func30,ntmps30
  go_upto_region 1 with fail
  rw [←c];clear c
  go_wp2_with (first
   | (go_at_call 42;(with_reducible refine (IX.o).mono ?_);rintro e D ⟨rfl,rfl⟩)
   | (go_at_call 57;(with_reducible refine (CC.o).mono ?_);rintro e D ⟨xf,rfl,hm,A⟩;obtain ⟨V,N,c3,L,M,P,rfl⟩:=hm.slices;(have p:=(A.block _ (Aa R.o)).trans R.o);(have f3:=aE p);(have t3:=aA p);clear p))
  have p:=(A.block _ (Aa R.o)).trans R.o;have l:=dG p (Iz y.kind) (.bool y.bool) (Iz y.num) (.string y.text) (.slice V N c3) (.slice L M P);have m:=aO D (w.heap.size+1) (Iz y.kind) (.bool y.bool) (Iz y.num) (.string y.text) (.slice V N c3) (.slice L M P);have k:=B1.o.trans (A.mono B1.o.size);have xh:=Z2.o;refine Au (v:=.tuple #[.agg (Na y V N c3 L M P),.bool true]) ?_ ?_ ?_;rotate_left
  ·rfl
  ·have e1:∀b,Fr r.heap.size D b→(dJ D (w.heap.size+1) (Iz y.kind) (.bool y.bool) (Iz y.num) (.string y.text) (.slice V N c3) (.slice L M P)).heap[b]?=D.heap[b]?:=fun b g=>m.block b g.2.1 (by intro e;have:=Ab e;have:=g.1;omega)
   exact ⟨(Nc y V N c3 L M P),rfl,((hm.same e1).mono fun b g=>g.move (e1 b g) (by omega) m.size).deeper (by omega),k.grown m k.size (fun b e=>by have:=Ab e;omega)⟩
  ·obtain ⟨K,J,E,I,G,F⟩:=aA l
   simp only [dJ] at K J E I G F;simp [results,results30,go_sem,K,J,E,I,G,F]
end Go.Proofs.YtncdpanfefnjlaaGreatDoor