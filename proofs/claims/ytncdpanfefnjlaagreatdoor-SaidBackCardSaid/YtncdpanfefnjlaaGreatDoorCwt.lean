import Derived.Test.YtncdpanfefnjlaaGreatDoorCph
set_option linter.unusedVariables false
set_option linter.unusedSimpArgs false
set_option maxHeartbeats 3200000
set_option maxRecDepth 100000
namespace Go.Proofs.YtncdpanfefnjlaaGreatDoor
open Go.Proofs.Tryz
open Go Go.ChangeShapes Go.WideShapes Go.ChangeAt Go.RowKit
def iI (x:ND):Value:=.agg #[Iz (fV x:Int),.int .u64 (gG x:Int)]
theorem nC {D d:Nat} {S:Nat→Prop} (cs:Vl) (x:ND) (w:World) (h:aC D S w cs x) (hv:aB (d+1) x=true) (hn:aO (d+1) x=true):Calls prog 167 #[.agg cs.toArray] w fun e w'=>e=.returned (iI x)∧Below w.heap.size w w':=by
 have hnl:=cL hn;have hvl:=aX hv;cases D with
 | zero=>exact h.elim
 | succ D=>
 obtain ⟨vn,vi,e,ht,⟨an,cn,en,hn1,hn2,-⟩,⟨ai,ci,ei,hi1,hi2,-⟩⟩:=h;subst en ei e;have hk:=jA hv;obtain ⟨k,b,n,t,ns,its⟩:=x;have hmost:=hvl.2.1;have htsz:=kC hvl.2.2.1;have htl:t.data.toList.length=t.size:=by rw [Ah];rfl
 obtain ⟨hwn,-⟩:=hnl;unfold dD at hwn;rw [Ak,Av,Av] at hwn;simp only [ND.kind,ND.bool,ND.num,ND.text,ND.names,ND.items,nd0,ND.mk.injEq,Dp,Di] at hk ht hmost htsz hwn hn1 hn2 hi1 hi2 ⊢;clear hvl hv hn;rcases hk with ⟨rfl,rfl,rfl,rfl,rfl,rfl⟩ | ⟨rfl,rfl,rfl,rfl,rfl⟩ | ⟨rfl,rfl,rfl,rfl,rfl⟩ | ⟨rfl,rfl,rfl,rfl,rfl⟩ | ⟨rfl,rfl,rfl,rfl,rfl⟩ | ⟨⟨rfl,rfl,rfl,rfl⟩,hlen2⟩
 ·rw [show iI (.mk 0 false 0 ⟨#[]⟩ [] [])=.agg #[Iz 7,.int .u64 22] from rfl]
  clear hmost htsz htl hwn ht;simp only [Bs] at *;have b1:=((Br w.heap.size w).alloc (o:=.cells #[Iz 0,.bool false,Iz 0,.string ⟨#[]⟩,.slice an 0 cn,.slice ai 0 ci] 28) (Lr _)).alloc (o:=.cells #[Iz 0,.int .u64 0] 214) (by simp)
  have k2:=Hn (w.alloc (.cells #[Iz 0,.bool false,Iz 0,.string ⟨#[]⟩,.slice an 0 cn,.slice ai 0 ci] 28)) (.cells #[Iz 0,.int .u64 0] 214);have k1:=((Br (w.heap.size+1) (w.alloc (.cells #[Iz 0,.bool false,Iz 0,.string ⟨#[]⟩,.slice an 0 cn,.slice ai 0 ci] 28))).alloc (o:=.cells #[Iz 0,.int .u64 0] 214) (by simp)).block w.heap.size (by omega) |>.trans (Hn w (.cells #[Iz 0,.bool false,Iz 0,.string ⟨#[]⟩,.slice an 0 cn,.slice ai 0 ci] 28))
  rw [Cw] at k2
  go_enter func167,ntmps167
  go_upto_region 1 with fail
  generalize (w.alloc (.cells #[Iz 0,.bool false,Iz 0,.string ⟨#[]⟩,.slice an 0 cn,.slice ai 0 ci] 28)).alloc (.cells #[Iz 0,.int .u64 0] 214)=w2 at b1 k1 k2 ⊢;have c1:=aA k1;have f2:=dL k2;have c2:=dY k2
  go_wp2
  refine Ar (v:=.agg #[Iz 7,.int .u64 22]) ?_ ?_ ?_;rotate_left
  ·rfl
  ·exact ⟨rfl,(b1.setCell (by simp) _).setCell (by simp) _⟩
  ·have q:=eG k2 (Iz 7) (.int .u64 22)
   have q0:=q.1;have q1:=q.2;simp [results,results167,go_sem,q0,q1]
 ·clear hmost htsz htl hwn ht
  simp only [Bs] at *;cases b
  ·rw [show iI (.mk 1 false 0 ⟨#[]⟩ [] [])=.agg #[Iz 7,.int .u64 20] from rfl]
   have b1:=((Br w.heap.size w).alloc (o:=.cells #[Iz 1,.bool false,Iz 0,.string ⟨#[]⟩,.slice an 0 cn,.slice ai 0 ci] 28) (Lr _)).alloc (o:=.cells #[Iz 0,.int .u64 0] 214) (by simp)
   have k2:=Hn (w.alloc (.cells #[Iz 1,.bool false,Iz 0,.string ⟨#[]⟩,.slice an 0 cn,.slice ai 0 ci] 28)) (.cells #[Iz 0,.int .u64 0] 214);have k1:=((Br (w.heap.size+1) (w.alloc (.cells #[Iz 1,.bool false,Iz 0,.string ⟨#[]⟩,.slice an 0 cn,.slice ai 0 ci] 28))).alloc (o:=.cells #[Iz 0,.int .u64 0] 214) (by simp)).block w.heap.size (by omega) |>.trans (Hn w (.cells #[Iz 1,.bool false,Iz 0,.string ⟨#[]⟩,.slice an 0 cn,.slice ai 0 ci] 28))
   rw [Cw] at k2
   go_enter func167,ntmps167
   go_upto_region 1 with fail
   generalize (w.alloc (.cells #[Iz 1,.bool false,Iz 0,.string ⟨#[]⟩,.slice an 0 cn,.slice ai 0 ci] 28)).alloc (.cells #[Iz 0,.int .u64 0] 214)=w2 at b1 k1 k2 ⊢;have c1:=aA k1;have f2:=dL k2;have c2:=dY k2
   go_wp2
   refine Ar (v:=.agg #[Iz 7,.int .u64 20]) ?_ ?_ ?_;rotate_left
   ·rfl
   ·exact ⟨rfl,(b1.setCell (by simp) _).setCell (by simp) _⟩
   ·have q:=eG k2 (Iz 7) (.int .u64 20)
    have q0:=q.1;have q1:=q.2;simp [results,results167,go_sem,q0,q1]
  ·rw [show iI (.mk 1 true 0 ⟨#[]⟩ [] [])=.agg #[Iz 7,.int .u64 21] from rfl]
   have b1:=((Br w.heap.size w).alloc (o:=.cells #[Iz 1,.bool true,Iz 0,.string ⟨#[]⟩,.slice an 0 cn,.slice ai 0 ci] 28) (Lr _)).alloc (o:=.cells #[Iz 0,.int .u64 0] 214) (by simp)
   have k2:=Hn (w.alloc (.cells #[Iz 1,.bool true,Iz 0,.string ⟨#[]⟩,.slice an 0 cn,.slice ai 0 ci] 28)) (.cells #[Iz 0,.int .u64 0] 214);have k1:=((Br (w.heap.size+1) (w.alloc (.cells #[Iz 1,.bool true,Iz 0,.string ⟨#[]⟩,.slice an 0 cn,.slice ai 0 ci] 28))).alloc (o:=.cells #[Iz 0,.int .u64 0] 214) (by simp)).block w.heap.size (by omega) |>.trans (Hn w (.cells #[Iz 1,.bool true,Iz 0,.string ⟨#[]⟩,.slice an 0 cn,.slice ai 0 ci] 28))
   rw [Cw] at k2
   go_enter func167,ntmps167
   go_upto_region 1 with fail
   generalize (w.alloc (.cells #[Iz 1,.bool true,Iz 0,.string ⟨#[]⟩,.slice an 0 cn,.slice ai 0 ci] 28)).alloc (.cells #[Iz 0,.int .u64 0] 214)=w2 at b1 k1 k2 ⊢;have c1:=aA k1;have f2:=dL k2;have c2:=dY k2
   go_wp2
   refine Ar (v:=.agg #[Iz 7,.int .u64 21]) ?_ ?_ ?_;rotate_left
   ·rfl
   ·exact ⟨rfl,(b1.setCell (by simp) _).setCell (by simp) _⟩
   ·have q:=eG k2 (Iz 7) (.int .u64 21)
    have q0:=q.1;have q1:=q.2;simp [results,results167,go_sem,q0,q1]
 ·clear hmost htsz htl ht
  simp only [Bs] at *
  by_cases hneg:n<0
  ·have hw1:IntKind.i64.wrap (-1 - n)=-1 - n:=Cd _ (by omega)
   have hw2:IntKind.u64.wrap (-1 - n)=-1 - n:=by rw [Bw];omega
   rw [show iI (.mk 2 false n ⟨#[]⟩ [] [])=.agg #[Iz 1,.int .u64 (-1 - n)] by
    unfold iI fV gG;simp only [ND.kind,ND.num,ND.bool];simp [hneg];omega]
   clear hwn;have b1:=((Br w.heap.size w).alloc (o:=.cells #[Iz 2,.bool false,Iz n,.string ⟨#[]⟩,.slice an 0 cn,.slice ai 0 ci] 28) (Lr _)).alloc (o:=.cells #[Iz 0,.int .u64 0] 214) (by simp)
   have k2:=Hn (w.alloc (.cells #[Iz 2,.bool false,Iz n,.string ⟨#[]⟩,.slice an 0 cn,.slice ai 0 ci] 28)) (.cells #[Iz 0,.int .u64 0] 214);have k1:=((Br (w.heap.size+1) (w.alloc (.cells #[Iz 2,.bool false,Iz n,.string ⟨#[]⟩,.slice an 0 cn,.slice ai 0 ci] 28))).alloc (o:=.cells #[Iz 0,.int .u64 0] 214) (by simp)).block w.heap.size (by omega) |>.trans (Hn w (.cells #[Iz 2,.bool false,Iz n,.string ⟨#[]⟩,.slice an 0 cn,.slice ai 0 ci] 28))
   rw [Cw] at k2
   go_enter func167,ntmps167
   go_upto_region 1 with fail
   generalize (w.alloc (.cells #[Iz 2,.bool false,Iz n,.string ⟨#[]⟩,.slice an 0 cn,.slice ai 0 ci] 28)).alloc (.cells #[Iz 0,.int .u64 0] 214)=w2 at b1 k1 k2 ⊢;have c1:=aA k1;have f2:=dL k2;have c2:=dY k2
   go_wp2
   refine Ar (v:=.agg #[Iz 1,.int .u64 (-1 - n)]) ?_ ?_ ?_;rotate_left
   ·rfl
   ·exact ⟨rfl,(b1.setCell (by simp) _).setCell (by simp) _⟩
   ·have q:=eG k2 (Iz 1) (.int .u64 (-1 - n))
    have q0:=q.1;have q1:=q.2;simp [results,results167,go_sem,q0,q1]
  ·have hw2:IntKind.u64.wrap n=n:=by rw [Bw];omega
   rw [show iI (.mk 2 false n ⟨#[]⟩ [] [])=.agg #[Iz 0,.int .u64 n] by
    unfold iI fV gG;simp only [ND.kind,ND.num,ND.bool];simp [hneg];omega]
   clear hwn;have b1:=((Br w.heap.size w).alloc (o:=.cells #[Iz 2,.bool false,Iz n,.string ⟨#[]⟩,.slice an 0 cn,.slice ai 0 ci] 28) (Lr _)).alloc (o:=.cells #[Iz 0,.int .u64 0] 214) (by simp)
   have k2:=Hn (w.alloc (.cells #[Iz 2,.bool false,Iz n,.string ⟨#[]⟩,.slice an 0 cn,.slice ai 0 ci] 28)) (.cells #[Iz 0,.int .u64 0] 214);have k1:=((Br (w.heap.size+1) (w.alloc (.cells #[Iz 2,.bool false,Iz n,.string ⟨#[]⟩,.slice an 0 cn,.slice ai 0 ci] 28))).alloc (o:=.cells #[Iz 0,.int .u64 0] 214) (by simp)).block w.heap.size (by omega) |>.trans (Hn w (.cells #[Iz 2,.bool false,Iz n,.string ⟨#[]⟩,.slice an 0 cn,.slice ai 0 ci] 28))
   rw [Cw] at k2
   go_enter func167,ntmps167
   go_upto_region 1 with fail
   generalize (w.alloc (.cells #[Iz 2,.bool false,Iz n,.string ⟨#[]⟩,.slice an 0 cn,.slice ai 0 ci] 28)).alloc (.cells #[Iz 0,.int .u64 0] 214)=w2 at b1 k1 k2 ⊢;have c1:=aA k1;have f2:=dL k2;have c2:=dY k2
   go_wp2
   refine Ar (v:=.agg #[Iz 0,.int .u64 n]) ?_ ?_ ?_;rotate_left
   ·rfl
   ·exact ⟨rfl,(b1.setCell (by simp) _).setCell (by simp) _⟩
   ·have q:=eG k2 (Iz 0) (.int .u64 n)
    have q0:=q.1;have q1:=q.2;simp [results,results167,go_sem,q0,q1]
 ·clear hmost hwn
  simp only [Bs] at *;have hw2:IntKind.u64.wrap (t.size:Int)=(t.size:Int):=by rw [Bw];omega
  rw [show iI (.mk 3 false 0 t [] [])=.agg #[Iz 3,.int .u64 (t.size:Int)] from rfl]
  clear htsz htl ht;have b1:=((Br w.heap.size w).alloc (o:=.cells #[Iz 3,.bool false,Iz 0,.string t,.slice an 0 cn,.slice ai 0 ci] 28) (Lr _)).alloc (o:=.cells #[Iz 0,.int .u64 0] 214) (by simp)
  have k2:=Hn (w.alloc (.cells #[Iz 3,.bool false,Iz 0,.string t,.slice an 0 cn,.slice ai 0 ci] 28)) (.cells #[Iz 0,.int .u64 0] 214);have k1:=((Br (w.heap.size+1) (w.alloc (.cells #[Iz 3,.bool false,Iz 0,.string t,.slice an 0 cn,.slice ai 0 ci] 28))).alloc (o:=.cells #[Iz 0,.int .u64 0] 214) (by simp)).block w.heap.size (by omega) |>.trans (Hn w (.cells #[Iz 3,.bool false,Iz 0,.string t,.slice an 0 cn,.slice ai 0 ci] 28))
  rw [Cw] at k2
  go_enter func167,ntmps167
  go_upto_region 1 with fail
  generalize (w.alloc (.cells #[Iz 3,.bool false,Iz 0,.string t,.slice an 0 cn,.slice ai 0 ci] 28)).alloc (.cells #[Iz 0,.int .u64 0] 214)=w2 at b1 k1 k2 ⊢;have c1:=aA k1;have f2:=dL k2;have c2:=dY k2
  go_wp2
  refine Ar (v:=.agg #[Iz 3,.int .u64 (t.size:Int)]) ?_ ?_ ?_;rotate_left
  ·rfl
  ·exact ⟨rfl,(b1.setCell (by simp) _).setCell (by simp) _⟩
  ·have q:=eG k2 (Iz 3) (.int .u64 (t.size:Int))
   have q0:=q.1;have q1:=q.2;simp [results,results167,go_sem,q0,q1]
 ·clear htsz htl hwn ht
  simp only [Bs] at hn1 hn2 ⊢;have hw2:IntKind.u64.wrap (its.length:Int)=(its.length:Int):=by rw [Bw];omega
  rw [show iI (.mk 4 false 0 ⟨#[]⟩ [] its)=.agg #[Iz 4,.int .u64 (its.length:Int)] from rfl]
  clear hmost;have b1:=((Br w.heap.size w).alloc (o:=.cells #[Iz 4,.bool false,Iz 0,.string ⟨#[]⟩,.slice an 0 cn,.slice ai its.length ci] 28) (Lr _)).alloc (o:=.cells #[Iz 0,.int .u64 0] 214) (by simp)
  have k2:=Hn (w.alloc (.cells #[Iz 4,.bool false,Iz 0,.string ⟨#[]⟩,.slice an 0 cn,.slice ai its.length ci] 28)) (.cells #[Iz 0,.int .u64 0] 214);have k1:=((Br (w.heap.size+1) (w.alloc (.cells #[Iz 4,.bool false,Iz 0,.string ⟨#[]⟩,.slice an 0 cn,.slice ai its.length ci] 28))).alloc (o:=.cells #[Iz 0,.int .u64 0] 214) (by simp)).block w.heap.size (by omega) |>.trans (Hn w (.cells #[Iz 4,.bool false,Iz 0,.string ⟨#[]⟩,.slice an 0 cn,.slice ai its.length ci] 28))
  rw [Cw] at k2
  go_enter func167,ntmps167
  go_upto_region 1 with fail
  generalize (w.alloc (.cells #[Iz 4,.bool false,Iz 0,.string ⟨#[]⟩,.slice an 0 cn,.slice ai its.length ci] 28)).alloc (.cells #[Iz 0,.int .u64 0] 214)=w2 at b1 k1 k2 ⊢;have c1:=aA k1;have f2:=dL k2;have c2:=dY k2
  go_wp2
  refine Ar (v:=.agg #[Iz 4,.int .u64 (its.length:Int)]) ?_ ?_ ?_;rotate_left
  ·rfl
  ·exact ⟨rfl,(b1.setCell (by simp) _).setCell (by simp) _⟩
  ·have q:=eG k2 (Iz 4) (.int .u64 (its.length:Int))
   have q0:=q.1;have q1:=q.2;simp [results,results167,go_sem,q0,q1]
 ·clear htsz htl hwn ht
  have hw2:IntKind.u64.wrap (its.length:Int)=(its.length:Int):=by rw [Bw];omega
  rw [show iI (.mk 5 false 0 ⟨#[]⟩ ns its)=.agg #[Iz 5,.int .u64 (its.length:Int)] from rfl]
  clear hmost hlen2;have b1:=((Br w.heap.size w).alloc (o:=.cells #[Iz 5,.bool false,Iz 0,.string ⟨#[]⟩,.slice an ns.length cn,.slice ai its.length ci] 28) (Lr _)).alloc (o:=.cells #[Iz 0,.int .u64 0] 214) (by simp)
  have k2:=Hn (w.alloc (.cells #[Iz 5,.bool false,Iz 0,.string ⟨#[]⟩,.slice an ns.length cn,.slice ai its.length ci] 28)) (.cells #[Iz 0,.int .u64 0] 214);have k1:=((Br (w.heap.size+1) (w.alloc (.cells #[Iz 5,.bool false,Iz 0,.string ⟨#[]⟩,.slice an ns.length cn,.slice ai its.length ci] 28))).alloc (o:=.cells #[Iz 0,.int .u64 0] 214) (by simp)).block w.heap.size (by omega) |>.trans (Hn w (.cells #[Iz 5,.bool false,Iz 0,.string ⟨#[]⟩,.slice an ns.length cn,.slice ai its.length ci] 28))
  rw [Cw] at k2
  go_enter func167,ntmps167
  go_upto_region 1 with fail
  generalize (w.alloc (.cells #[Iz 5,.bool false,Iz 0,.string ⟨#[]⟩,.slice an ns.length cn,.slice ai its.length ci] 28)).alloc (.cells #[Iz 0,.int .u64 0] 214)=w2 at b1 k1 k2 ⊢;have c1:=aA k1;have f2:=dL k2;have c2:=dY k2
  go_wp2
  refine Ar (v:=.agg #[Iz 5,.int .u64 (its.length:Int)]) ?_ ?_ ?_;rotate_left
  ·rfl
  ·exact ⟨rfl,(b1.setCell (by simp) _).setCell (by simp) _⟩
  ·have q:=eG k2 (Iz 5) (.int .u64 (its.length:Int))
   have q0:=q.1;have q1:=q.2;simp [results,results167,go_sem,q0,q1]
end Go.Proofs.YtncdpanfefnjlaaGreatDoor
namespace Go.Proofs.YtncdpanfefnjlaaGreatDoor
open Go.Proofs.Tryz
open Go Go.ChangeShapes Go.WideShapes Go.ChangeAt Go.RowKit Go.Shelf
def WSc (TW TB:TypeId) (B:Nat) (w:World) (g:Nat) (l:Ub):Prop:=∃v,w.heap[g]?=some (.cells #[v] TW (0,0))∧w.ownsRow B TB 1 v l.length (aS l)∧g<B
theorem WSc.below {TW TB:TypeId} {B:Nat} {w w':World} {g:Nat} {l:Ub} (h:WSc TW TB B w g l) (hb:Below w.heap.size w w'):WSc TW TB B w' g l:=by
 obtain ⟨v,h1,h2,h3⟩:=h;exact ⟨v,(hb.block g (Aa h1)).trans h1,h2.kept (aK hb (Lr _) none) (by cases e:v.ownBlock with | none=>exact .inl rfl | some b=>exact .inr (by simp)),h3⟩
theorem WSc.lt {TW TB:TypeId} {B:Nat} {w:World} {g:Nat} {l:Ub} (h:WSc TW TB B w g l):g<w.heap.size:=by obtain ⟨v,h1,_⟩:=h;exact Aa h1
theorem xI {TW TB:TypeId} {B:Nat} {w w8:World} {g:Nat} {l l':Ub} {v v':Value} (h1:w.heap[g]?=some (.cells #[v] TW (0,0))) (h2:w.ownsRow B TB 1 v l.length (aS l)) (hgB:g<B) (hTW:TW ≠ TB)
 (hown:w8.ownsRow B TB 1 v' l'.length (aS l')) (hgr:w.grownBy w8 v.ownBlock) :
 w8.heap[g]?=some (.cells #[v] TW (0,0))∧WSc TW TB B (w8.setCell ⟨g,0,none⟩ v') g l'∧WFr TB g w (w8.setCell ⟨g,0,none⟩ v'):=by
 have hne:v.ownBlock ≠ some g:=by
  intro e;have:=(h2.lt g e).1;omega
 have k8:w8.heap[g]?=some (.cells #[v] TW (0,0)):=(hgr.block g (Aa h1) (fun e=>hne e.symm)).trans h1
 refine ⟨k8,⟨v',?_,?_,hgB⟩,?_,?_⟩
 ·have:=dQ k8 (j:=0) v'
  simpa using this
 ·refine hown.kept (aR w8 g 0 v') ?_
  cases e:v'.ownBlock with
  | none=>exact .inl rfl
  | some b=>exact .inr (fun e'=>by cases e';have:=(hown.lt _ e).1;omega)
 ·have hb8:Below g w w8:=(Br g w).grown hgr (Bo (Aa h1)) (fun k hk=>by have:=(h2.lt k hk).1;omega)
  exact hb8.grown (aR w8 g 0 v') (by have:=Aa k8;omega) (fun k hk=>by cases hk;exact Lr _)
 ·intro i o hi ho hn
  rw [heap_setCell_other w8 ⟨g,0,none⟩ i v' hi];refine (hgr.block i (Aa ho) fun e=>?_).trans ho
  rcases h2.2 with ⟨rfl,-⟩ | ⟨b,cap,cur,rfl,-,hb,-⟩
  ·cases e
  ·have e:i=b:=by simpa [Value.ownBlock] using e
   subst e;rw [hb] at ho;exact hn _ _ (Ab ho).symm
def KpW (TB:TypeId) (g:Nat) (w w':World):Prop:=Below g w w'∧∀ (i:Nat) cs T fz,i ≠ g→T ≠ TB→w.heap[i]?=some (.cells cs T fz)→w'.heap[i]?=some (.cells cs T fz)
theorem KpW.refl (TB:TypeId) (g:Nat) (w:World):KpW TB g w w:=⟨Br _ _,fun _ _ _ _ _ _ h=>h⟩
theorem KpW.trans {TB:TypeId} {g:Nat} {a b c:World} (h:KpW TB g a b) (k:KpW TB g b c):KpW TB g a c:=⟨h.1.trans k.1,fun i cs T fz hi hT ho=>k.2 i cs T fz hi hT (h.2 i cs T fz hi hT ho)⟩
theorem KpW.of {TB:TypeId} {g:Nat} {a b:World} (h:WFr TB g a b):KpW TB g a b:=⟨h.1,fun i cs T fz hi hT ho=>h.2 i _ hi ho (fun ds f e=>hT (by cases e;rfl))⟩
theorem KpW.below {TB:TypeId} {g:Nat} {a b:World} (h:Below a.heap.size a b) (hg:g≤a.heap.size):KpW TB g a b:=KpW.of (WFr.of_below h hg)
theorem aHj {TB:TypeId} {g:Nat} {w:World} (hg:g≤w.heap.size) (W:World) (l:Nat) (o o':Obj) (hl:w.heap.size≤l) (h:W.heap[l]?=some o) (hc:o.isCells=false) (hw:o.isWalk=false):KpW TB g W (W.putObj l o'):=by
 refine ⟨belowK_b hg W l o o' hl h hc hw,fun i cs T fz hi hT ho=>?_⟩
 by_cases e:i=l
 ·subst e
  rw [h] at ho;cases ho;cases hc
 ·exact ((grownBy_putObj' W l o').block i (Aa ho) (fun e'=>e (Ab e'))).trans ho
def ED (Q:Exit→Act→World→Prop):Exit→Act→World→Prop
 | .panic _,_,_=>False
 | e,a,w=>Q e a w
theorem ED.o {Q:Exit→Act→World→Prop}:∀e a w,ED Q e a w→Q e a w
 | .normal,_,_,h=>h
 | .ret,_,_,h=>h
 | .exit _,_,_,h=>h
 | .goto _,_,_,h=>h
 | .panic _,_,_,h=>h.elim
 | .outgrown,_,_,h=>h
theorem rO {TB:TypeId} {g:Nat} {a W W':World} {row:Option Nat} {B:Nat} (h:WFr TB g a W) (ha:a.heap.size≤B) (hgB:g<B) (hgr:W.grownBy W' row) (hr:∀r,row=some r→B≤r) (hW:B≤W.heap.size):WFr TB g a W':=by
 refine ⟨h.1.grown hgr (by omega) (fun k hk=>by have:=hr k hk;omega),fun i o hi ho hn=>?_⟩
 have hlt:=Aa ho;refine (hgr.block i (by omega) fun e=>?_).trans (h.2 i o hi ho hn)
 have:=hr i e.symm;omega
theorem rJ {TW TB:TypeId} {B:Nat} {W W':World} {g:Nat} {l:Ub} {row:Option Nat} (h:WSc TW TB B W g l) (hgr:W.grownBy W' row) (hr:∀r,row=some r→∃o:Obj,W.heap[r]?=some o∧o.isCells=false):WSc TW TB B W' g l:=by
 obtain ⟨v,k1,k2,k3⟩:=h;refine ⟨v,(hgr.block g (Aa k1) fun e=>?_).trans k1,k2.kept hgr ?_,k3⟩
 ·obtain ⟨o,ho,hc⟩:=hr g e.symm
  rw [k1] at ho;cases ho;cases hc
 ·rcases k2.2 with ⟨rfl,-⟩ | ⟨b,cap,cur,rfl,-,hb,-⟩
  ·exact .inl rfl
  ·right
   intro e;have e':row=some b:=by rw [←e];rfl
   obtain ⟨o,ho,hc⟩:=hr b e';rw [hb] at ho;cases ho;cases hc
theorem SK {l T U l':Ub} (h:Out (l++T) U l'):Out l (T++U) l':=by
 rcases h with rfl | ⟨h1,h2⟩
 ·exact .inl (by rw [Aj])
 ·exact .inr ⟨h1,by rw [Lg] at h2 ⊢;omega⟩
theorem vX {A B:Type} {f:A→List B} {p q:List A} (h:p <+: q):(p.flatMap f).length≤(q.flatMap f).length:=by
 obtain ⟨t,rfl⟩:=h;rw [List.flatMap_append,Lg];omega
theorem nA {TB:TypeId} {g B:Nat} {W W':World} (h:WFr TB g W W') (hg:g≤W.heap.size) (hB:g<B):KeepsFrom B W W':=⟨h.1.size,fun k o hk ho hc=>h.2 k o (by omega) ho (fun cs fz e=>by subst e;cases hc)⟩
theorem WSc.fresh {TW TB:TypeId} (w:World):WSc TW TB (w.heap.size+1) (w.alloc (.cells #[Sn] TW)) w.heap.size []:=
 ⟨Sn,Hn w _,Dr _ _ _ _,by omega⟩
end Go.Proofs.YtncdpanfefnjlaaGreatDoor
namespace Go.Proofs.YtncdpanfefnjlaaGreatDoor
open Go.Proofs.Tryz
open Go Go.ChangeShapes Go.WideShapes Go.ChangeAt Go.RowKit
def txC (s:Bt):ND:=.mk 3 false 0 s [] []
def lZ (x:ND):List ND:=if x.kind=5 then (List.zipWith (fun s y=>[txC s,y]) x.names x.items).flatten else x.items
theorem BH {W V:ND→Ub} {f:Bt→Ub} (h1:∀s,V (txC s)=f s):∀ (ns:List Bt) (its:List ND),(∀y,y ∈ its→V y=W y)→((List.zipWith (fun s y=>[txC s,y]) ns its).flatten).flatMap V=(List.zipWith (fun s y=>f s++W y) ns its).flatten
 | [],_,_=>rfl
 | s::t,[],_=>rfl
 | s::t,y::u,h=>by
  rw [Bg,Bg,Bp,Bp,List.flatMap_append,BH h1 t u (fun z hz=>h z (by simp [hz]))]
  simp [h1,h y (by simp)]
theorem NE (d:Nat) (s:Bt):bJ (d+1) (txC s)=fY s:=by rw [gJ];rfl
theorem rK {d:Nat} {x:ND} (h:aB (d+1) x=true):bJ (d+1) x=eA (fV x) (gG x)++x.text.data.toList++(lZ x).flatMap (bJ d):=by
 obtain ⟨hi,-,-,-⟩:=aX h;have hk:=jA h;rw [gJ,Aj]
 congr 1
 unfold oV lZ;obtain ⟨k,b,n,t,ns,its⟩:=x;unfold nd0 at hk;simp only [ND.mk.injEq,ND.kind,ND.bool,ND.num,ND.text,ND.names,ND.items] at *;rcases hk with ⟨rfl,rfl,rfl,rfl,rfl,rfl⟩ | ⟨rfl,-,rfl,rfl,rfl,rfl⟩ | ⟨rfl,rfl,-,rfl,rfl,rfl⟩ | ⟨rfl,rfl,rfl,-,rfl,rfl⟩ | ⟨rfl,rfl,rfl,rfl,rfl,-⟩ | ⟨⟨rfl,rfl,rfl,rfl,-,-⟩,hlx⟩
 ·rfl
 ·rfl
 ·rfl
 ·simp
 ·simp
 ·simp only [Int.reduceEq,if_false,if_true,↓reduceIte]
  cases d with
  | zero=>
   have:its=[]:=by
    cases its with
    | nil=>rfl
    | cons y u=>have:=hi y (by simp);cases this
   subst this;have hns:ns=[]:=Au.1 hlx;subst hns
   rfl
  | succ d=>
   rw [BH (W:=bJ (d+1)) (NE d) ns its (fun _ _=>rfl)]
   rfl
theorem EW (x:ND) (hl:x.items.length≤256):(lZ x).length≤512:=by
 unfold lZ
 split
 ·have:∀ (ns:List Bt) (its:List ND),((List.zipWith (fun s y=>[txC s,y]) ns its).flatten).length≤2 * its.length:=by
   intro ns
   induction ns with
   | nil=>intro its;simp
   | cons s t ih=>
    intro its;cases its with
    | nil=>simp
    | cons y u=>
     rw [Bg,Bp,Lg,Ag];have:=ih u;simp at *;omega
  have:=this x.names x.items;omega
 ·omega
theorem ID:∀ (ns:List Bt) (its:List ND) (j:Nat) (s:Bt) (y:ND),ns[j]?=some s→its[j]?=some y →
 ((List.zipWith (fun s y=>[txC s,y]) ns its).flatten).take (2 * j+1)=((List.zipWith (fun s y=>[txC s,y]) ns its).flatten).take (2 * j)++[txC s] ∧
 ((List.zipWith (fun s y=>[txC s,y]) ns its).flatten).take (2 * (j+1))=((List.zipWith (fun s y=>[txC s,y]) ns its).flatten).take (2 * j)++[txC s]++[y]
 | [],_,_,_,_,h,_=>by simp at h
 | _::_,[],_,_,_,_,h=>by simp at h
 | s0::t,y0::u,0,s,y,h1,h2=>by
  cases h1;cases h2;exact ⟨rfl,rfl⟩
 | s0::t,y0::u,j+1,s,y,h1,h2=>by
  obtain ⟨e1,e2⟩:=ID t u j s y h1 h2;rw [Bg,Bp,Bm,Bm,Dm];refine ⟨?_,?_⟩
  ·rw [show 2 * (j+1)+1=(2 * j+1)+1+1 by omega,show 2 * (j+1)=2 * j+1+1 by omega,Cv,Cv,Cv,Cv,e1]
   rfl
  ·rw [show 2 * (j+1+1)=2 * (j+1)+1+1 by omega,show 2 * (j+1)=2 * j+1+1 by omega,Cv,Cv,Cv,Cv,show 2 * j+1+1=2 * (j+1) by omega,e2]
   rfl
theorem twc:180 ≠ 5:=by decide
theorem tnu:(28:TypeId) ≠ 5:=by decide
abbrev RK:=WSc 180 5
abbrev KpC:=KpW 5
theorem MF {B g:Nat} {l:Ub} (w:World) (h:RK B w g l):Calls prog 146 #[.pointer (some ⟨g,0,none⟩)] w fun e w'=>e=.returned (.bool (decide (65536<l.length)))∧w=w':=by
 obtain ⟨v,h1,h2,-⟩:=h;have c0:w.cell? ⟨g,0,none⟩=some v:=aL h1 rfl;obtain ⟨ao,cap,rfl,-,-⟩:=dI h2;clear h1 h2
 by_cases hl:65536<l.length
 ·have hl':(65536:Int)<(l.length:Int):=by omega
  rw [An hl]
  go_enter func146,ntmps146
  go_wp2
  go_ret
  exact ⟨rfl,rfl⟩
 ·have hl':¬ (65536:Int)<(l.length:Int):=by omega
  rw [Ap hl]
  go_enter func146,ntmps146
  go_wp2
  go_ret
  exact ⟨by first | rfl | (refine Ad (fun q=>Ending.returned (Value.bool q)) ?_;simp;omega),rfl⟩
theorem QV {a1 a2:Option Addr} {k n:Int} {b:Bool} {t:Bt} {l1 c1 l2 c2:Nat} (w:World):Calls prog 169 #[.agg #[Iz k,.bool b,Iz n,.string t,.slice a1 l1 c1,.slice a2 l2 c2]] w fun e w'=>e=.returned (.func (.func 195) #[] #[.pointer (some ⟨w.heap.size,0,none⟩)])∧w'=w.alloc (.cells #[Iz k,.bool b,Iz n,.string t,.slice a1 l1 c1,.slice a2 l2 c2] 28):=by
 go_enter func169,ntmps169
 go_wp2
 go_ret
 exact ⟨rfl,rfl⟩
end Go.Proofs.YtncdpanfefnjlaaGreatDoor