import Derived.Test.YtncdpanfefnjlaaGreatDoorCen
import Derived.Test.YtncdpanfefnjlaaGreatDoorCph
set_option linter.unusedVariables false
set_option linter.unusedSimpArgs false
set_option maxHeartbeats 3200000
set_option maxRecDepth 100000
namespace Go.Proofs.YtncdpanfefnjlaaGreatDoor
open Go.Proofs.Tryz
open Go Go.ChangeShapes Go.WideShapes Go.ChangeAt Go.RowKit
def iR (x:ND):Value:=.agg #[Iz (fZ x:Int),.int .u64 (gL x:Int)]
theorem nR {D d:Nat} {S:Nat→Prop} (N:Vl) (x:ND) (w:World) (h:aD D S w N x) (K:aC (d+1) x=true) (O:aP (d+1) x=true):Calls prog 167 #[.agg N.toArray] w fun e w'=>e=.returned (iR x)∧Below w.heap.size w w':=by
 have J:=cG O;have F:=aX K;cases D with
 | zero=>exact h.elim
 | succ D=>
 obtain ⟨V,U,e,G,⟨g,i,T,I,H,-⟩,⟨c,f,Q,M,L,-⟩⟩:=h;subst T Q e;have P:=iF K;obtain ⟨k,b,n,t,ns,its⟩:=x;have j:=F.2.1;have p:=gX F.2.2.1;have y:t.data.toList.length=t.size:=by rw [Ah];rfl
 obtain ⟨r,-⟩:=J;unfold dD at r;rw [An,As,As] at r;simp only [ND.kind,ND.bool,ND.num,ND.text,ND.names,ND.items,nd0,ND.mk.injEq,Dj,Dd] at P G j p r I H M L ⊢;clear F K O;rcases P with ⟨rfl,rfl,rfl,rfl,rfl,rfl⟩ | ⟨rfl,rfl,rfl,rfl,rfl⟩ | ⟨rfl,rfl,rfl,rfl,rfl⟩ | ⟨rfl,rfl,rfl,rfl,rfl⟩ | ⟨rfl,rfl,rfl,rfl,rfl⟩ | ⟨⟨rfl,rfl,rfl,rfl⟩,B⟩
 ·rw [show iR (.mk 0 false 0 ⟨#[]⟩ [] [])=.agg #[Iz 7,.int .u64 22] from rfl]
  clear j p y r G;simp only [Bz] at *;have m:=((Br w.heap.size w).alloc (o:=.cells #[Iz 0,.bool false,Iz 0,.string ⟨#[]⟩,.slice g 0 i,.slice c 0 f] 28) (Lr _)).alloc (o:=.cells #[Iz 0,.int .u64 0] 214) (by simp)
  have a:=Hn (w.alloc (.cells #[Iz 0,.bool false,Iz 0,.string ⟨#[]⟩,.slice g 0 i,.slice c 0 f] 28)) (.cells #[Iz 0,.int .u64 0] 214);have l:=((Br (w.heap.size+1) (w.alloc (.cells #[Iz 0,.bool false,Iz 0,.string ⟨#[]⟩,.slice g 0 i,.slice c 0 f] 28))).alloc (o:=.cells #[Iz 0,.int .u64 0] 214) (by simp)).block w.heap.size (by omega) |>.trans (Hn w (.cells #[Iz 0,.bool false,Iz 0,.string ⟨#[]⟩,.slice g 0 i,.slice c 0 f] 28))
  rw [Cz] at a
  go_enter func167,ntmps167
  go_upto_region 1 with fail
  generalize (w.alloc (.cells #[Iz 0,.bool false,Iz 0,.string ⟨#[]⟩,.slice g 0 i,.slice c 0 f] 28)).alloc (.cells #[Iz 0,.int .u64 0] 214)=E at m l a ⊢;have c1:=aA l;have C:=dP a;have c2:=eJ a
  go_wp2
  refine Au (v:=.agg #[Iz 7,.int .u64 22]) ?_ ?_ ?_;rotate_left
  ·rfl
  ·exact ⟨rfl,(m.setCell (by simp) _).setCell (by simp) _⟩
  ·have q:=eT a (Iz 7) (.int .u64 22)
   have u:=q.1;have s:=q.2;simp [results,results167,go_sem,u,s]
 ·clear j p y r G
  simp only [Bz] at *;cases b
  ·rw [show iR (.mk 1 false 0 ⟨#[]⟩ [] [])=.agg #[Iz 7,.int .u64 20] from rfl]
   have m:=((Br w.heap.size w).alloc (o:=.cells #[Iz 1,.bool false,Iz 0,.string ⟨#[]⟩,.slice g 0 i,.slice c 0 f] 28) (Lr _)).alloc (o:=.cells #[Iz 0,.int .u64 0] 214) (by simp)
   have a:=Hn (w.alloc (.cells #[Iz 1,.bool false,Iz 0,.string ⟨#[]⟩,.slice g 0 i,.slice c 0 f] 28)) (.cells #[Iz 0,.int .u64 0] 214);have l:=((Br (w.heap.size+1) (w.alloc (.cells #[Iz 1,.bool false,Iz 0,.string ⟨#[]⟩,.slice g 0 i,.slice c 0 f] 28))).alloc (o:=.cells #[Iz 0,.int .u64 0] 214) (by simp)).block w.heap.size (by omega) |>.trans (Hn w (.cells #[Iz 1,.bool false,Iz 0,.string ⟨#[]⟩,.slice g 0 i,.slice c 0 f] 28))
   rw [Cz] at a
   go_enter func167,ntmps167
   go_upto_region 1 with fail
   generalize (w.alloc (.cells #[Iz 1,.bool false,Iz 0,.string ⟨#[]⟩,.slice g 0 i,.slice c 0 f] 28)).alloc (.cells #[Iz 0,.int .u64 0] 214)=E at m l a ⊢;have c1:=aA l;have C:=dP a;have c2:=eJ a
   go_wp2
   refine Au (v:=.agg #[Iz 7,.int .u64 20]) ?_ ?_ ?_;rotate_left
   ·rfl
   ·exact ⟨rfl,(m.setCell (by simp) _).setCell (by simp) _⟩
   ·have q:=eT a (Iz 7) (.int .u64 20)
    have u:=q.1;have s:=q.2;simp [results,results167,go_sem,u,s]
  ·rw [show iR (.mk 1 true 0 ⟨#[]⟩ [] [])=.agg #[Iz 7,.int .u64 21] from rfl]
   have m:=((Br w.heap.size w).alloc (o:=.cells #[Iz 1,.bool true,Iz 0,.string ⟨#[]⟩,.slice g 0 i,.slice c 0 f] 28) (Lr _)).alloc (o:=.cells #[Iz 0,.int .u64 0] 214) (by simp)
   have a:=Hn (w.alloc (.cells #[Iz 1,.bool true,Iz 0,.string ⟨#[]⟩,.slice g 0 i,.slice c 0 f] 28)) (.cells #[Iz 0,.int .u64 0] 214);have l:=((Br (w.heap.size+1) (w.alloc (.cells #[Iz 1,.bool true,Iz 0,.string ⟨#[]⟩,.slice g 0 i,.slice c 0 f] 28))).alloc (o:=.cells #[Iz 0,.int .u64 0] 214) (by simp)).block w.heap.size (by omega) |>.trans (Hn w (.cells #[Iz 1,.bool true,Iz 0,.string ⟨#[]⟩,.slice g 0 i,.slice c 0 f] 28))
   rw [Cz] at a
   go_enter func167,ntmps167
   go_upto_region 1 with fail
   generalize (w.alloc (.cells #[Iz 1,.bool true,Iz 0,.string ⟨#[]⟩,.slice g 0 i,.slice c 0 f] 28)).alloc (.cells #[Iz 0,.int .u64 0] 214)=E at m l a ⊢;have c1:=aA l;have C:=dP a;have c2:=eJ a
   go_wp2
   refine Au (v:=.agg #[Iz 7,.int .u64 21]) ?_ ?_ ?_;rotate_left
   ·rfl
   ·exact ⟨rfl,(m.setCell (by simp) _).setCell (by simp) _⟩
   ·have q:=eT a (Iz 7) (.int .u64 21)
    have u:=q.1;have s:=q.2;simp [results,results167,go_sem,u,s]
 ·clear j p y G
  simp only [Bz] at *
  by_cases A:n<0
  ·have R:IntKind.i64.wrap (-1 - n)=-1 - n:=Cc _ (by omega)
   have z:IntKind.u64.wrap (-1 - n)=-1 - n:=by rw [Bi];omega
   rw [show iR (.mk 2 false n ⟨#[]⟩ [] [])=.agg #[Iz 1,.int .u64 (-1 - n)] by
    unfold iR fZ gL;simp only [ND.kind,ND.num,ND.bool];simp [A];omega]
   clear r;have m:=((Br w.heap.size w).alloc (o:=.cells #[Iz 2,.bool false,Iz n,.string ⟨#[]⟩,.slice g 0 i,.slice c 0 f] 28) (Lr _)).alloc (o:=.cells #[Iz 0,.int .u64 0] 214) (by simp)
   have a:=Hn (w.alloc (.cells #[Iz 2,.bool false,Iz n,.string ⟨#[]⟩,.slice g 0 i,.slice c 0 f] 28)) (.cells #[Iz 0,.int .u64 0] 214);have l:=((Br (w.heap.size+1) (w.alloc (.cells #[Iz 2,.bool false,Iz n,.string ⟨#[]⟩,.slice g 0 i,.slice c 0 f] 28))).alloc (o:=.cells #[Iz 0,.int .u64 0] 214) (by simp)).block w.heap.size (by omega) |>.trans (Hn w (.cells #[Iz 2,.bool false,Iz n,.string ⟨#[]⟩,.slice g 0 i,.slice c 0 f] 28))
   rw [Cz] at a
   go_enter func167,ntmps167
   go_upto_region 1 with fail
   generalize (w.alloc (.cells #[Iz 2,.bool false,Iz n,.string ⟨#[]⟩,.slice g 0 i,.slice c 0 f] 28)).alloc (.cells #[Iz 0,.int .u64 0] 214)=E at m l a ⊢;have c1:=aA l;have C:=dP a;have c2:=eJ a
   go_wp2
   refine Au (v:=.agg #[Iz 1,.int .u64 (-1 - n)]) ?_ ?_ ?_;rotate_left
   ·rfl
   ·exact ⟨rfl,(m.setCell (by simp) _).setCell (by simp) _⟩
   ·have q:=eT a (Iz 1) (.int .u64 (-1 - n))
    have u:=q.1;have s:=q.2;simp [results,results167,go_sem,u,s]
  ·have z:IntKind.u64.wrap n=n:=by rw [Bi];omega
   rw [show iR (.mk 2 false n ⟨#[]⟩ [] [])=.agg #[Iz 0,.int .u64 n] by
    unfold iR fZ gL;simp only [ND.kind,ND.num,ND.bool];simp [A];omega]
   clear r;have m:=((Br w.heap.size w).alloc (o:=.cells #[Iz 2,.bool false,Iz n,.string ⟨#[]⟩,.slice g 0 i,.slice c 0 f] 28) (Lr _)).alloc (o:=.cells #[Iz 0,.int .u64 0] 214) (by simp)
   have a:=Hn (w.alloc (.cells #[Iz 2,.bool false,Iz n,.string ⟨#[]⟩,.slice g 0 i,.slice c 0 f] 28)) (.cells #[Iz 0,.int .u64 0] 214);have l:=((Br (w.heap.size+1) (w.alloc (.cells #[Iz 2,.bool false,Iz n,.string ⟨#[]⟩,.slice g 0 i,.slice c 0 f] 28))).alloc (o:=.cells #[Iz 0,.int .u64 0] 214) (by simp)).block w.heap.size (by omega) |>.trans (Hn w (.cells #[Iz 2,.bool false,Iz n,.string ⟨#[]⟩,.slice g 0 i,.slice c 0 f] 28))
   rw [Cz] at a
   go_enter func167,ntmps167
   go_upto_region 1 with fail
   generalize (w.alloc (.cells #[Iz 2,.bool false,Iz n,.string ⟨#[]⟩,.slice g 0 i,.slice c 0 f] 28)).alloc (.cells #[Iz 0,.int .u64 0] 214)=E at m l a ⊢;have c1:=aA l;have C:=dP a;have c2:=eJ a
   go_wp2
   refine Au (v:=.agg #[Iz 0,.int .u64 n]) ?_ ?_ ?_;rotate_left
   ·rfl
   ·exact ⟨rfl,(m.setCell (by simp) _).setCell (by simp) _⟩
   ·have q:=eT a (Iz 0) (.int .u64 n)
    have u:=q.1;have s:=q.2;simp [results,results167,go_sem,u,s]
 ·clear j r
  simp only [Bz] at *;have z:IntKind.u64.wrap (t.size:Int)=(t.size:Int):=by rw [Bi];omega
  rw [show iR (.mk 3 false 0 t [] [])=.agg #[Iz 3,.int .u64 (t.size:Int)] from rfl]
  clear p y G;have m:=((Br w.heap.size w).alloc (o:=.cells #[Iz 3,.bool false,Iz 0,.string t,.slice g 0 i,.slice c 0 f] 28) (Lr _)).alloc (o:=.cells #[Iz 0,.int .u64 0] 214) (by simp)
  have a:=Hn (w.alloc (.cells #[Iz 3,.bool false,Iz 0,.string t,.slice g 0 i,.slice c 0 f] 28)) (.cells #[Iz 0,.int .u64 0] 214);have l:=((Br (w.heap.size+1) (w.alloc (.cells #[Iz 3,.bool false,Iz 0,.string t,.slice g 0 i,.slice c 0 f] 28))).alloc (o:=.cells #[Iz 0,.int .u64 0] 214) (by simp)).block w.heap.size (by omega) |>.trans (Hn w (.cells #[Iz 3,.bool false,Iz 0,.string t,.slice g 0 i,.slice c 0 f] 28))
  rw [Cz] at a
  go_enter func167,ntmps167
  go_upto_region 1 with fail
  generalize (w.alloc (.cells #[Iz 3,.bool false,Iz 0,.string t,.slice g 0 i,.slice c 0 f] 28)).alloc (.cells #[Iz 0,.int .u64 0] 214)=E at m l a ⊢;have c1:=aA l;have C:=dP a;have c2:=eJ a
  go_wp2
  refine Au (v:=.agg #[Iz 3,.int .u64 (t.size:Int)]) ?_ ?_ ?_;rotate_left
  ·rfl
  ·exact ⟨rfl,(m.setCell (by simp) _).setCell (by simp) _⟩
  ·have q:=eT a (Iz 3) (.int .u64 (t.size:Int))
   have u:=q.1;have s:=q.2;simp [results,results167,go_sem,u,s]
 ·clear p y r G
  simp only [Bz] at I H ⊢;have z:IntKind.u64.wrap (its.length:Int)=(its.length:Int):=by rw [Bi];omega
  rw [show iR (.mk 4 false 0 ⟨#[]⟩ [] its)=.agg #[Iz 4,.int .u64 (its.length:Int)] from rfl]
  clear j;have m:=((Br w.heap.size w).alloc (o:=.cells #[Iz 4,.bool false,Iz 0,.string ⟨#[]⟩,.slice g 0 i,.slice c its.length f] 28) (Lr _)).alloc (o:=.cells #[Iz 0,.int .u64 0] 214) (by simp)
  have a:=Hn (w.alloc (.cells #[Iz 4,.bool false,Iz 0,.string ⟨#[]⟩,.slice g 0 i,.slice c its.length f] 28)) (.cells #[Iz 0,.int .u64 0] 214);have l:=((Br (w.heap.size+1) (w.alloc (.cells #[Iz 4,.bool false,Iz 0,.string ⟨#[]⟩,.slice g 0 i,.slice c its.length f] 28))).alloc (o:=.cells #[Iz 0,.int .u64 0] 214) (by simp)).block w.heap.size (by omega) |>.trans (Hn w (.cells #[Iz 4,.bool false,Iz 0,.string ⟨#[]⟩,.slice g 0 i,.slice c its.length f] 28))
  rw [Cz] at a
  go_enter func167,ntmps167
  go_upto_region 1 with fail
  generalize (w.alloc (.cells #[Iz 4,.bool false,Iz 0,.string ⟨#[]⟩,.slice g 0 i,.slice c its.length f] 28)).alloc (.cells #[Iz 0,.int .u64 0] 214)=E at m l a ⊢;have c1:=aA l;have C:=dP a;have c2:=eJ a
  go_wp2
  refine Au (v:=.agg #[Iz 4,.int .u64 (its.length:Int)]) ?_ ?_ ?_;rotate_left
  ·rfl
  ·exact ⟨rfl,(m.setCell (by simp) _).setCell (by simp) _⟩
  ·have q:=eT a (Iz 4) (.int .u64 (its.length:Int))
   have u:=q.1;have s:=q.2;simp [results,results167,go_sem,u,s]
 ·clear p y r G
  have z:IntKind.u64.wrap (its.length:Int)=(its.length:Int):=by rw [Bi];omega
  rw [show iR (.mk 5 false 0 ⟨#[]⟩ ns its)=.agg #[Iz 5,.int .u64 (its.length:Int)] from rfl]
  clear j B;have m:=((Br w.heap.size w).alloc (o:=.cells #[Iz 5,.bool false,Iz 0,.string ⟨#[]⟩,.slice g ns.length i,.slice c its.length f] 28) (Lr _)).alloc (o:=.cells #[Iz 0,.int .u64 0] 214) (by simp)
  have a:=Hn (w.alloc (.cells #[Iz 5,.bool false,Iz 0,.string ⟨#[]⟩,.slice g ns.length i,.slice c its.length f] 28)) (.cells #[Iz 0,.int .u64 0] 214);have l:=((Br (w.heap.size+1) (w.alloc (.cells #[Iz 5,.bool false,Iz 0,.string ⟨#[]⟩,.slice g ns.length i,.slice c its.length f] 28))).alloc (o:=.cells #[Iz 0,.int .u64 0] 214) (by simp)).block w.heap.size (by omega) |>.trans (Hn w (.cells #[Iz 5,.bool false,Iz 0,.string ⟨#[]⟩,.slice g ns.length i,.slice c its.length f] 28))
  rw [Cz] at a
  go_enter func167,ntmps167
  go_upto_region 1 with fail
  generalize (w.alloc (.cells #[Iz 5,.bool false,Iz 0,.string ⟨#[]⟩,.slice g ns.length i,.slice c its.length f] 28)).alloc (.cells #[Iz 0,.int .u64 0] 214)=E at m l a ⊢;have c1:=aA l;have C:=dP a;have c2:=eJ a
  go_wp2
  refine Au (v:=.agg #[Iz 5,.int .u64 (its.length:Int)]) ?_ ?_ ?_;rotate_left
  ·rfl
  ·exact ⟨rfl,(m.setCell (by simp) _).setCell (by simp) _⟩
  ·have q:=eT a (Iz 5) (.int .u64 (its.length:Int))
   have u:=q.1;have s:=q.2;simp [results,results167,go_sem,u,s]
end Go.Proofs.YtncdpanfefnjlaaGreatDoor
namespace Go.Proofs.YtncdpanfefnjlaaGreatDoor
open Go.Proofs.Tryz
open Go Go.ChangeShapes Go.WideShapes Go.ChangeAt Go.RowKit Go.Shelf
def WSc (TW TB:TypeId) (B:Nat) (w:World) (g:Nat) (l:Ub):Prop:=∃v,w.heap[g]?=some (.cells #[v] TW (0,0))∧w.ownsRow B TB 1 v l.length (aS l)∧g<B
theorem WSc.below {TW TB:TypeId} {B:Nat} {w w':World} {g:Nat} {l:Ub} (h:WSc TW TB B w g l) (c:Below w.heap.size w w'):WSc TW TB B w' g l:=by
 obtain ⟨v,a,f,d⟩:=h;exact ⟨v,(c.block g (Aa a)).trans a,f.kept (aK c (Lr _) none) (by cases e:v.ownBlock with | none=>exact .inl rfl | some b=>exact .inr (by simp)),d⟩
theorem WSc.lt {TW TB:TypeId} {B:Nat} {w:World} {g:Nat} {l:Ub} (h:WSc TW TB B w g l):g<w.heap.size:=by obtain ⟨v,a,_⟩:=h;exact Aa a
theorem yQ {TW TB:TypeId} {B:Nat} {w a:World} {g:Nat} {l l':Ub} {v c:Value} (n:w.heap[g]?=some (.cells #[v] TW (0,0))) (p:w.ownsRow B TB 1 v l.length (aS l)) (s:g<B) (D:TW ≠ TB)
 (d:a.ownsRow B TB 1 c l'.length (aS l')) (f:w.grownBy a v.ownBlock) :
 a.heap[g]?=some (.cells #[v] TW (0,0))∧WSc TW TB B (a.setCell ⟨g,0,none⟩ c) g l'∧WFr TB g w (a.setCell ⟨g,0,none⟩ c):=by
 have q:v.ownBlock ≠ some g:=by
  intro e;have:=(p.lt g e).1;omega
 have m:a.heap[g]?=some (.cells #[v] TW (0,0)):=(f.block g (Aa n) (fun e=>q e.symm)).trans n
 refine ⟨m,⟨c,?_,?_,s⟩,?_,?_⟩
 ·have:=dX m (j:=0) c
  simpa using this
 ·refine d.kept (aV a g 0 c) ?_
  cases e:c.ownBlock with
  | none=>exact .inl rfl
  | some b=>exact .inr (fun x=>by cases x;have:=(d.lt _ e).1;omega)
 ·have r:Below g w a:=(Br g w).grown f (Bw (Aa n)) (fun k t=>by have:=(p.lt k t).1;omega)
  exact r.grown (aV a g 0 c) (by have:=Aa m;omega) (fun k t=>by cases t;exact Lr _)
 ·intro i o z h u
  rw [heap_setCell_other a ⟨g,0,none⟩ i c z];refine (f.block i (Aa h) fun e=>?_).trans h
  rcases p.2 with ⟨rfl,-⟩ | ⟨b,C,y,rfl,-,A,-⟩
  ·cases e
  ·have e:i=b:=by simpa [Value.ownBlock] using e
   subst e;rw [A] at h;exact u _ _ (Ab h).symm
def KpW (TB:TypeId) (g:Nat) (w w':World):Prop:=Below g w w'∧∀ (i:Nat) b T a,i ≠ g→T ≠ TB→w.heap[i]?=some (.cells b T a)→w'.heap[i]?=some (.cells b T a)
theorem KpW.refl (TB:TypeId) (g:Nat) (w:World):KpW TB g w w:=⟨Br _ _,fun _ _ _ _ _ _ h=>h⟩
theorem KpW.trans {TB:TypeId} {g:Nat} {a b c:World} (h:KpW TB g a b) (k:KpW TB g b c):KpW TB g a c:=⟨h.1.trans k.1,fun i j T e f d l=>k.2 i j T e f d (h.2 i j T e f d l)⟩
theorem KpW.of {TB:TypeId} {g:Nat} {a b:World} (h:WFr TB g a b):KpW TB g a b:=⟨h.1,fun i m T l j c d=>h.2 i _ j d (fun k f e=>c (by cases e;rfl))⟩
theorem KpW.below {TB:TypeId} {g:Nat} {a b:World} (h:Below a.heap.size a b) (c:g≤a.heap.size):KpW TB g a b:=KpW.of (WFr.of_below h c)
theorem aIx {TB:TypeId} {g:Nat} {w:World} (d:g≤w.heap.size) (W:World) (l:Nat) (o b:Obj) (k:w.heap.size≤l) (h:W.heap[l]?=some o) (c:o.isCells=false) (j:o.isWalk=false):KpW TB g W (W.putObj l b):=by
 refine ⟨belowK_b d W l o b k h c j,fun i q T n p m a=>?_⟩
 by_cases e:i=l
 ·subst e
  rw [h] at a;cases a;cases c
 ·exact ((grownBy_putObj' W l b).block i (Aa a) (fun f=>e (Ab f))).trans a
def GC (Q:Exit→Act→World→Prop):Exit→Act→World→Prop
 | .panic _,_,_=>False
 | e,a,w=>Q e a w
theorem GC.o {Q:Exit→Act→World→Prop}:∀e a w,GC Q e a w→Q e a w
 | .normal,_,_,h=>h
 | .ret,_,_,h=>h
 | .exit _,_,_,h=>h
 | .goto _,_,_,h=>h
 | .panic _,_,_,h=>h.elim
 | .outgrown,_,_,h=>h
theorem sN {TB:TypeId} {g:Nat} {a W c:World} {row:Option Nat} {B:Nat} (h:WFr TB g a W) (s:a.heap.size≤B) (l:g<B) (b:W.grownBy c row) (f:∀r,row=some r→B≤r) (q:B≤W.heap.size):WFr TB g a c:=by
 refine ⟨h.1.grown b (by omega) (fun k p=>by have:=f k p;omega),fun i o n d j=>?_⟩
 have m:=Aa d;refine (b.block i (by omega) fun e=>?_).trans (h.2 i o n d j)
 have:=f i e.symm;omega
theorem sG {TW TB:TypeId} {B:Nat} {W i:World} {g:Nat} {l:Ub} {row:Option Nat} (h:WSc TW TB B W g l) (a:W.grownBy i row) (k:∀r,row=some r→∃o:Obj,W.heap[r]?=some o∧o.isCells=false):WSc TW TB B i g l:=by
 obtain ⟨v,d,j,p⟩:=h;refine ⟨v,(a.block g (Aa d) fun e=>?_).trans d,j.kept a ?_,p⟩
 ·obtain ⟨o,c,f⟩:=k g e.symm
  rw [d] at c;cases c;cases f
 ·rcases j.2 with ⟨rfl,-⟩ | ⟨b,n,s,rfl,-,m,-⟩
  ·exact .inl rfl
  ·right
   intro e;have q:row=some b:=by rw [←e];rfl
   obtain ⟨o,c,f⟩:=k b q;rw [m] at c;cases c;cases f
theorem UM {l T U l':Ub} (h:Out (l++T) U l'):Out l (T++U) l':=by
 rcases h with rfl | ⟨a,b⟩
 ·exact .inl (by rw [Aj])
 ·exact .inr ⟨a,by rw [Lg] at b ⊢;omega⟩
theorem xD {A B:Type} {f:A→List B} {p q:List A} (h:p <+: q):(p.flatMap f).length≤(q.flatMap f).length:=by
 obtain ⟨t,rfl⟩:=h;rw [List.flatMap_append,Lg];omega
theorem nP {TB:TypeId} {g B:Nat} {W a:World} (h:WFr TB g W a) (f:g≤W.heap.size) (d:g<B):KeepsFrom B W a:=⟨h.1.size,fun k o l b c=>h.2 k o (by omega) b (fun j i e=>by subst e;cases c)⟩
theorem WSc.fresh {TW TB:TypeId} (w:World):WSc TW TB (w.heap.size+1) (w.alloc (.cells #[Sn] TW)) w.heap.size []:=
 ⟨Sn,Hn w _,Dk _ _ _ _,by omega⟩
end Go.Proofs.YtncdpanfefnjlaaGreatDoor
namespace Go.Proofs.YtncdpanfefnjlaaGreatDoor
open Go.Proofs.Tryz
open Go Go.ChangeShapes Go.WideShapes Go.ChangeAt Go.RowKit
def txC (s:Bt):ND:=.mk 3 false 0 s [] []
def mO (x:ND):List ND:=if x.kind=5 then (List.zipWith (fun s y=>[txC s,y]) x.names x.items).flatten else x.items
theorem DK {W V:ND→Ub} {f:Bt→Ub} (a:∀s,V (txC s)=f s):∀ (ns:List Bt) (its:List ND),(∀y,y ∈ its→V y=W y)→((List.zipWith (fun s y=>[txC s,y]) ns its).flatten).flatMap V=(List.zipWith (fun s y=>f s++W y) ns its).flatten
 | [],_,_=>rfl
 | s::t,[],_=>rfl
 | s::t,y::u,h=>by
  rw [Bh,Bh,Bv,Bv,List.flatMap_append,DK a t u (fun z b=>h z (by simp [b]))]
  simp [a,h y (by simp)]
theorem OZ (d:Nat) (s:Bt):aU (d+1) (txC s)=fT s:=by rw [dU];rfl
theorem sJ {d:Nat} {x:ND} (h:aC (d+1) x=true):aU (d+1) x=cR (fZ x) (gL x)++x.text.data.toList++(mO x).flatMap (aU d):=by
 obtain ⟨f,-,-,-⟩:=aX h;have e:=iF h;rw [dU,Aj]
 congr 1
 unfold nD mO;obtain ⟨k,b,n,t,ns,its⟩:=x;unfold nd0 at e;simp only [ND.mk.injEq,ND.kind,ND.bool,ND.num,ND.text,ND.names,ND.items] at *;rcases e with ⟨rfl,rfl,rfl,rfl,rfl,rfl⟩ | ⟨rfl,-,rfl,rfl,rfl,rfl⟩ | ⟨rfl,rfl,-,rfl,rfl,rfl⟩ | ⟨rfl,rfl,rfl,-,rfl,rfl⟩ | ⟨rfl,rfl,rfl,rfl,rfl,-⟩ | ⟨⟨rfl,rfl,rfl,rfl,-,-⟩,a⟩
 ·rfl
 ·rfl
 ·rfl
 ·simp
 ·simp
 ·simp only [Int.reduceEq,if_false,if_true,↓reduceIte]
  cases d with
  | zero=>
   have:its=[]:=by
    cases its with
    | nil=>rfl
    | cons y u=>have:=f y (by simp);cases this
   subst this;have c:ns=[]:=Aw.1 a;subst c
   rfl
  | succ d=>
   rw [DK (W:=aU (d+1)) (OZ d) ns its (fun _ _=>rfl)]
   rfl
theorem GU (x:ND) (a:x.items.length≤256):(mO x).length≤512:=by
 unfold mO
 split
 ·have:∀ (ns:List Bt) (its:List ND),((List.zipWith (fun s y=>[txC s,y]) ns its).flatten).length≤2 * its.length:=by
   intro ns
   induction ns with
   | nil=>intro its;simp
   | cons s t ih=>
    intro its;cases its with
    | nil=>simp
    | cons y u=>
     rw [Bh,Bv,Lg,Ag];have:=ih u;simp at *;omega
  have:=this x.names x.items;omega
 ·omega
theorem JV:∀ (ns:List Bt) (its:List ND) (j:Nat) (s:Bt) (y:ND),ns[j]?=some s→its[j]?=some y →
 ((List.zipWith (fun s y=>[txC s,y]) ns its).flatten).take (2 * j+1)=((List.zipWith (fun s y=>[txC s,y]) ns its).flatten).take (2 * j)++[txC s] ∧
 ((List.zipWith (fun s y=>[txC s,y]) ns its).flatten).take (2 * (j+1))=((List.zipWith (fun s y=>[txC s,y]) ns its).flatten).take (2 * j)++[txC s]++[y]
 | [],_,_,_,_,h,_=>by simp at h
 | _::_,[],_,_,_,_,h=>by simp at h
 | s0::t,y0::u,0,s,y,h1,h2=>by
  cases h1;cases h2;exact ⟨rfl,rfl⟩
 | s0::t,y0::u,j+1,s,y,h1,h2=>by
  obtain ⟨b,a⟩:=JV t u j s y h1 h2;rw [Bh,Bv,Bo,Bo,Ds];refine ⟨?_,?_⟩
  ·rw [show 2 * (j+1)+1=(2 * j+1)+1+1 by omega,show 2 * (j+1)=2 * j+1+1 by omega,Cx,Cx,Cx,Cx,b]
   rfl
  ·rw [show 2 * (j+1+1)=2 * (j+1)+1+1 by omega,show 2 * (j+1)=2 * j+1+1 by omega,Cx,Cx,Cx,Cx,show 2 * j+1+1=2 * (j+1) by omega,a]
   rfl
theorem twc:180 ≠ 5:=by decide
theorem tnu:(28:TypeId) ≠ 5:=by decide
abbrev TO:=WSc 180 5
abbrev KpC:=KpW 5
theorem OE {B g:Nat} {l:Ub} (w:World) (h:TO B w g l):Calls prog 146 #[.pointer (some ⟨g,0,none⟩)] w fun e w'=>e=.returned (.bool (decide (65536<l.length)))∧w=w':=by
 obtain ⟨v,b,c,-⟩:=h;have j:w.cell? ⟨g,0,none⟩=some v:=aL b rfl;obtain ⟨i,f,rfl,-,-⟩:=dM c;clear b c
 by_cases d:65536<l.length
 ·have a:(65536:Int)<(l.length:Int):=by omega
  rw [Ap d]
  go_enter func146,ntmps146
  go_wp2
  go_ret
  exact ⟨rfl,rfl⟩
 ·have a:¬ (65536:Int)<(l.length:Int):=by omega
  rw [Ar d]
  go_enter func146,ntmps146
  go_wp2
  go_ret
  exact ⟨by first | rfl | (refine Ad (fun q=>Ending.returned (Value.bool q)) ?_;simp;omega),rfl⟩
theorem SW {d f:Option Addr} {k n:Int} {b:Bool} {t:Bt} {a c1 c c2:Nat} (w:World):Calls prog 169 #[.agg #[Iz k,.bool b,Iz n,.string t,.slice d a c1,.slice f c c2]] w fun e w'=>e=.returned (.func (.func 195) #[] #[.pointer (some ⟨w.heap.size,0,none⟩)])∧w'=w.alloc (.cells #[Iz k,.bool b,Iz n,.string t,.slice d a c1,.slice f c c2] 28):=by
 go_enter func169,ntmps169
 go_wp2
 go_ret
 exact ⟨rfl,rfl⟩
end Go.Proofs.YtncdpanfefnjlaaGreatDoor