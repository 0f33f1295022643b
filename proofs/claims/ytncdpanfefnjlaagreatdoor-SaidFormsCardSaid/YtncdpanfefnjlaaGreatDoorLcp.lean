import Derived.Test.YtncdpanfefnjlaaGreatDoorLfd
set_option linter.unusedVariables false
set_option linter.unusedSimpArgs false
set_option maxRecDepth 100000
set_option maxHeartbeats 3200000
namespace Go.Proofs.YtncdpanfefnjlaaGreatDoor
open Go.Proofs.Tryz
open Go Go.ChangeShapes Go.WideShapes Go.ChangeAt Go.RowKit
theorem aHb {d:Nat} {S:Nat→Prop} (t:Vl) (x:ND) (s:Bt) (w:World) (h:aD (d+1) S w t x) (j:x.kind ≠ 5) :
 Calls prog 30 #[.agg t.toArray,.string s] w (TR d w (eY x s)):=by
 obtain ⟨l,g,c1,k,m,c2,rfl⟩:=h.slices;have y:eY x s=none:=by unfold eY;rw [Ae j]
 rw [y];have I:(x.kind != 5)=true:=by simp [j]
 have F:(x.kind == 5)=false:=by simp [j]
 clear h y;obtain ⟨i,a⟩:∃W,W=(w.alloc (.cells (Na x l g c1 k m c2) 28)).alloc (.cells Z6 28):=⟨_,rfl⟩;have B:(w.alloc (.cells (Na x l g c1 k m c2) 28)).heap.size=w.heap.size+1:=by simp
 have z:Below w.heap.size w i:=by rw [a];exact ((Br _ _).alloc (Lr _) _).alloc (by simp) _
 have D:i.heap[w.heap.size]?=some (.cells (Na x l g c1 k m c2) 28 (0,0)):=by rw [a];exact (Bj _ _ _ (by omega)).trans (Hn _ _)
 have n:i.heap[w.heap.size+1]?=some (.cells Z6 28 (0,0)):=by
  have:=Hn (w.alloc (.cells (Na x l g c1 k m c2) 28)) (.cells Z6 28);rw [B] at this;rw [a];exact this
 have K:=aA D;have J:=aE n;have L:=aA n;have G:=Hh n;have H:=Hh z;clear D n z B j
 go_enter func30,ntmps30
 go_upto_region 1 with fail
 rw [←a];clear a
 go_wp2
 have p:=aO i (w.heap.size+1) (Iz 0) (.bool false) (Iz 0) (.string ⟨#[]⟩) (Sn) (Sn);have f:=H.o;have c:=dG G.o (Iz 0) (.bool false) (Iz 0) (.string ⟨#[]⟩) (Sn) (Sn);refine Au (v:=.tuple #[.agg Z6,.bool false]) ?_ ?_ ?_;rotate_left
 ·rfl
 ·exact ⟨Y6,rfl,(cJ _ _ 0 false 0 ⟨#[]⟩ (by decide)).deeper (by omega),f.grown p f.size (fun b e=>by have:=Ab e;omega)⟩
 ·obtain ⟨C,u,q,E,r,A⟩:=aA c
  simp only [dJ] at C u q E r A;simp [results,results30,go_sem,C,u,q,E,r,A]
theorem YK {d:Nat} {S:Nat→Prop} (D:Vl) (x:ND) (l:Bt) (g:Nat) (w:World) (E:w.heap[g]?=some (.cells D.toArray 28 (0,0))) (h:aD (d+1) S w D x) (F:∀b,S b→b<w.heap.size) (v:cO 7 x):Calls prog 55 #[.string l,.pointer (some ⟨g,0,none⟩)] w fun e w'=>e=.returned (.bool (!gK x l))∧Below w.heap.size w w':=by
 obtain ⟨K,H,c1,J,L,c2,rfl⟩:=h.slices;have s:=Hh (AM _ x l w h F v.kind v.len (dS 8 (d+1) x ((cK v.kind).2 v)));have p:gK x l=match eY x l with | some z=>decide (z.kind=3) | none=>false:=rfl
 have A:=aA E;rw [p];clear h F v E p;cases ho:eY x l with
 | none=>
  rw [ho] at s;clear ho
  go_enter func55,ntmps55
  go_upto_region 2 with ((with_reducible refine (s.o).mono ?_);rintro e c ⟨C,rfl,r,a⟩;obtain ⟨i,f,c3,n,m,k,rfl⟩:=r.slices)
  have q:=(Br c.heap.size c).alloc (o:=.cells #[Iz ((none:Option ND).getD nd0).kind,.bool ((none:Option ND).getD nd0).bool,Iz ((none:Option ND).getD nd0).num,.string ((none:Option ND).getD nd0).text,.slice i f c3,.slice n m k] 28) (Lr _);have j:=Hh (a.trans (q.mono a.size));clear r a q s A
  go_wp2
  go_ret
  exact ⟨rfl,j.o⟩
 | some y=>
  rw [ho] at s;clear ho
  by_cases u:y.kind=3
  ·rw [show (match some y with | some z=>decide (z.kind=3) | none=>false)=true from Ap u]
   have B:=Hh u;clear u
   go_enter func55,ntmps55
   go_upto_region 2 with ((with_reducible refine (s.o).mono ?_);rintro e c ⟨C,rfl,r,a⟩;obtain ⟨i,f,c3,n,m,k,rfl⟩:=r.slices)
   have q:=(Br c.heap.size c).alloc (o:=.cells (Na y i f c3 n m k) 28) (Lr _);have t:=Hn c (.cells (Na y i f c3 n m k) 28);have j:=Hh (a.trans (q.mono a.size))
   change Hid (Below w.heap.size w (c.alloc (.cells (Na y i f c3 n m k) 28))) at j
   generalize c.alloc _=G at t j ⊢;have c3:=aA t;clear r a q t s A;rw [B.o] at c3
   go_wp2
   go_ret
   exact ⟨rfl,j.o⟩
  ·rw [show (match some y with | some z=>decide (z.kind=3) | none=>false)=false from Ar u]
   have I:(y.kind != 3)=true:=by simp [u]
   go_enter func55,ntmps55
   go_upto_region 2 with ((with_reducible refine (s.o).mono ?_);rintro e c ⟨C,rfl,r,a⟩;obtain ⟨i,f,c3,n,m,k,rfl⟩:=r.slices)
   have q:=(Br c.heap.size c).alloc (o:=.cells (Na y i f c3 n m k) 28) (Lr _);have t:=Hn c (.cells (Na y i f c3 n m k) 28);have j:=Hh (a.trans (q.mono a.size))
   change Hid (Below w.heap.size w (c.alloc (.cells (Na y i f c3 n m k) 28))) at j
   generalize c.alloc _=G at t j ⊢;have c3:=aA t;clear r a q t s A;clear u
   go_wp2
   go_ret
   exact ⟨rfl,j.o⟩
theorem aCr {d:Nat} {S:Nat→Prop} (C:Vl) (x:ND) (v:Value) (ls:List Bt) (g:Nat) (w:World) (D:w.heap[g]?=some (.cells C.toArray 28 (0,0))) (h:aD (d+1) S w C x) (F:bH S w v ls) (z:∀b,S b→b<w.heap.size) (J:cO 7 x) :
 Calls prog 90 #[v,.func (.func 55) #[] #[.pointer (some ⟨g,0,none⟩)]] w (VH (!ls.all (gK x)) w):=by
 obtain ⟨Y,T,rfl,N,I,-⟩:=id F;have H:=Hh F;have U:=Hh z;have R:=Hh (fun (L:World) (t:Below w.heap.size w L) (l:Bt)=>YK C x l g L ((t.block _ (Aa D)).trans D) (h.same fun b q=>t.block b (z b q)) (fun b q=>Ll (z b q) t.size) J)
 unfold maxLen at I;clear F h z J D
 go_enter func90,ntmps90
 go_wp2
 go_loopw [5,8] (fun V i wr=>∃j:Nat,i=Iz j∧j≤ls.length∧(∀y,y ∈ ls.take j→gK x y=true)∧Below w.heap.size w wr) (fun _ i _=>ls.length - (intOf i).toNat)
 case atStart=>exact ⟨0,rfl,Av _,(fun y m=>by simp at m),Br _ _⟩
 case round=>
  obtain ⟨j,rfl,Z,f,k⟩:=hrel
  by_cases E:j<ls.length
  ·have u:(j:Int)<(ls.length:Int):=by omega
   have O:(0:Int)≤(j:Int):=by omega
   obtain ⟨s,B⟩:∃s,ls[j]?=some s:=⟨_,Ac E⟩;obtain ⟨b,A,rfl,t,M⟩:=H.o.get B;have X:=(k.cell (p:=⟨b,A+j,none⟩) (U.o b t)).trans M;have W:=Hh (R.o wr k s);have K:=Hh B;have G:=Hh f;clear B f M;cases hv:gK x s with
   | true=>
    rw [hv] at W;have n:=Hh hv;clear hv
    go_wp2_with (go_at_call 55;(with_reducible refine (W.o).mono ?_);rintro e Q ⟨rfl,c⟩;(have r:=k.trans (c.mono k.size));clear c k)
    go_roundw
    case rel=>
     refine ⟨j+1,by go_num,by omega,fun y m=>?_,r⟩
     rw [Bf,K.o] at m;rcases Bg.1 m with m | m
     ·exact G.o y m
     ·simp at m;subst m;exact n.o
    case measure=>simp [intOf];omega
   | false=>
    rw [hv] at W;have n:=Hh hv;clear hv
    go_wp2_with (go_at_call 55;(with_reducible refine (W.o).mono ?_);rintro e Q ⟨rfl,c⟩;(have r:=k.trans (c.mono k.size));clear c k)
    go_ret
    have a:ls.all (gK x)=false:=by
     cases hq:ls.all (gK x) with
     | false=>rfl
     | true=>
      have:=Ax.1 hq s (Ao K.o);rw [n.o] at this;cases this
    exact ⟨(j:Int),rfl,by rw [a,Ap (by omega)];rfl,r⟩
  ·have u:¬ (j:Int)<(ls.length:Int):=by omega
   have a:ls.all (gK x)=true:=by
    rw [Ak (by omega)] at f
    exact Ax.2 f
   have P:=Hh a;clear f a
   go_wp2
   go_ret
   exact ⟨-1,rfl,by rw [P.o];rfl,k⟩
theorem YI {d:Nat} {S:Nat→Prop} (a:Vl) (x:ND) (v:Value) (ls:List Bt) (g:Nat) (w:World) (i:w.heap[g]?=some (.cells a.toArray 28 (0,0))) (h:aD (d+1) S w a x) (k:bH S w v ls) (j:∀b,S b→b<w.heap.size) (f:cO 7 x) :
 Calls prog 56 #[v,.func (.func 55) #[] #[.pointer (some ⟨g,0,none⟩)]] w fun e w'=>e=.returned (.bool (!ls.all (gK x)))∧Below w.heap.size w w':=by
 have I:=Hh (aCr a x v ls g w i h k j f);generalize (!ls.all (gK x))=l at I ⊢;clear h k j f i
 go_enter func56,ntmps56
 go_wp2_with (go_at_call 90;(with_reducible refine (I.o).mono ?_);rintro e n ⟨z,rfl,m,c⟩)
 go_ret
 exact ⟨by first | rfl | (rw [←m]),c⟩
theorem IM {d:Nat} {S:Nat→Prop} (t:Vl) (x:ND) (v:Value) (ls:List Bt) (w:World) (h:aD (d+1) S w t x) (j:bH S w v ls) (i:∀b,S b→b<w.heap.size) (k:cO 7 x) :
 Calls prog 29 #[.agg t.toArray,v] w fun e w'=>e=.returned (.bool (decide (ls ≠ []) && ls.all (gK x)))∧Below w.heap.size w w':=by
 obtain ⟨z,r,c1,u,A,c2,rfl⟩:=h.slices;obtain ⟨C,a,rfl,B,D,-⟩:=id j;have f:=(Br w.heap.size w).alloc (o:=.cells (Na x z r c1 u A c2) 28) (Lr _);have p:=Hn w (.cells (Na x z r c1 u A c2) 28);have E:∀ (y:Fn) (first a:Array Value) (w:World),(Instr.makeFunc y first a).run prog w=.ok (.func y first a) w:=fun _ _ _ _=>rfl
 have m:=Hh (YI _ x (.slice C ls.length a) ls w.heap.size _ p (h.same fun b q=>f.block b (i b q)) (j.same fun b q=>f.block b (i b q)) (fun b q=>Ll (i b q) f.size) k)
 have c:=Hh f
 by_cases g:ls=[]
 ·have n:¬ (0:Int)<(ls.length:Int):=by rw [g];decide
  rw [show (decide (ls ≠ []) && ls.all (gK x))=false by rw [g];rfl]
  clear h j i k p f m g
  go_enter func29,ntmps29
  go_wp2
  go_ret
  exact ⟨rfl,c.o⟩
 ·have n:(0:Int)<(ls.length:Int):=by have:ls.length ≠ 0:=fun e=>g (Aw.1 e);omega
  rw [Ap (show ls ≠ [] from g),Bool.true_and]
  generalize ls.all (gK x)=s at m ⊢;clear h j i k p f g
  go_enter func29,ntmps29
  go_wp2_with (go_at_call 56;(with_reducible refine (m.o).mono ?_);rintro e F ⟨rfl,l⟩)
  go_ret
  exact ⟨by simp,c.o.trans (l.mono c.o.size)⟩
theorem xY.bad {k:Int} {s:Bt} {n:ND} {a:Int} (h:xY k s n a) (b:a ≠ 0):n=nd0:=by
 rcases h with ⟨-,⟨g,-⟩ | ⟨-,g,-⟩⟩ | ⟨-,⟨g,-⟩ | ⟨-,g,-⟩⟩ | ⟨-,⟨g,-⟩ | ⟨-,g,-⟩⟩ | ⟨-,g,-⟩
 all_goals first
  | exact g
  | exact absurd g b
def aFt (v:VD) (s:Bt) (w:World) (e:Ending) (w':World):Prop:=∃ (a:Vl) (n:ND) (c:Int),e=.returned (.tuple #[.agg a.toArray,.bool (decide (c=0) && mZ n (vtS v))])∧aD 9 (fun b=>w.heap.size≤b∧b<w'.heap.size) w' a n∧Below w.heap.size w w'∧xY v.f s n c
theorem MI (v:VD) (E:aY v=true) (s:Bt) (w:World) (hT:uL w) (hD:DB w):Calls prog 28 #[.agg (vcs v),.string s] w (aFt v s w):=by
 have hw:=wK E;obtain ⟨G,D⟩:∃W,W=(w.alloc (.cells #[.string v.p,Iz v.a,Iz v.b,Iz v.f,Iz v.z] 58)).alloc (.cells Z6 28):=⟨_,rfl⟩;have z1:(w.alloc (.cells #[.string v.p,Iz v.a,Iz v.b,Iz v.f,Iz v.z] 58)).heap.size=w.heap.size+1:=by simp
 have b1:Below w.heap.size w G:=by rw [D];exact ((Br _ _).alloc (Lr _) _).alloc (by simp) _
 have k0:G.heap[w.heap.size]?=some (.cells #[.string v.p,Iz v.a,Iz v.b,Iz v.f,Iz v.z] 58 (0,0)):=by rw [D];exact (Bj _ _ _ (by omega)).trans (Hn _ _)
 have k1:G.heap[w.heap.size+1]?=some (.cells Z6 28 (0,0)):=by
  have:=Hn (w.alloc (.cells #[.string v.p,Iz v.a,Iz v.b,Iz v.f,Iz v.z] 58)) (.cells Z6 28);rw [z1] at this;rw [D];exact this
 have z3:G.heap.size=w.heap.size+2:=by rw [D];simp
 have DE:=ZR v.f s G (hT.below b1);unfold aAk at DE;have DE:=Hh DE;have TX:Hid (∀i,Below w.heap.size w i→Calls prog 53 #[.agg #[.string v.p,Iz v.a,Iz v.b,Iz v.f,Iz v.z]] i fun e w'=>e=.returned (.tuple #[.string (vtS v),Iz 0])∧Below i.heap.size i w'):=Hh fun i r=>by
  have:=oQ v i hw (hD.below r);unfold yM at this
  rwa [show vtE v=0 by unfold vtE;rw [E];rfl] at this
 have NT:=Hh (fun i:World=>gN (vtS v) i)
 have xw:Hid ((vtS v).size=17):=Hh (wH E).2.1;have K0:=Hh k0;have K1:=Hh k1;have B1:=Hh b1;have Z3:=Hh z3;have c0:=dQ k0;clear hw E hT hD k0 k1 b1 z1 z3;unfold vcs
 go_enter func28,ntmps28
 go_upto_region 1 with fail
 rw [←D];clear D
 go_upto_region 2 with ((with_reducible refine (DE.o).mono ?_);rintro e w2 ⟨cn,n,e0,rfl,hn,U,hd⟩;obtain ⟨Q,O,c1,N,P,c2,rfl⟩:=hn.slices)
 have b3:=(Br w2.heap.size w2).alloc (o:=.cells (Na n Q O c1 N P c2) 28) (Lr _);have k3:=Hn w2 (.cells (Na n Q O c1 N P c2) 28);have xd:=U.trans (b3.mono U.size);have xi:=(hn.same fun b q=>b3.block b q.2).mono fun b q=>(⟨q.1,Ll q.2 b3.size⟩:G.heap.size≤b∧b<(w2.alloc (.cells (Na n Q O c1 N P c2) 28)).heap.size)
 have xc:=U.size;generalize w2.alloc _=w3 at b3 k3 xd xi ⊢;generalize w2.heap.size=H at k3 xc ⊢;have C:=Hh xd;have xu:=Hh xi;have xq:=Hh k3;have HD:=Hh hd;have x8:=Hh xc;have S:Hid (∀i,Below G.heap.size G i→i.heap[w.heap.size]?=some (.cells #[.string v.p,Iz v.a,Iz v.b,Iz v.f,Iz v.z] 58 (0,0))∧i.heap[w.heap.size+1]?=some (.cells Z6 28 (0,0))):=Hh fun i r=>⟨(r.block _ (Aa K0.o)).trans K0.o,(r.block _ (Aa K1.o)).trans K1.o⟩
 clear hn U b3 k3 xd xi hd c0 DE xc
 by_cases h0:e0=0
 ·subst h0
  have F:=HD.o.good.1;have HF:=Hh F;have cv:=dQ (S.o _ C.o).1;have T3:=Hh (TX.o w3 (B1.o.trans (C.o.mono B1.o.size)));clear F
  go_upto_region 5 with ((with_reducible refine (T3.o).mono ?_);rintro e w4 ⟨rfl,M⟩)
  have xs:=Hh (C.o.trans (M.mono C.o.size));have xb:=Hh ((M.block _ (Aa xq.o)).trans xq.o);have xh:=Hh ((xu.o.same fun b q=>M.block b q.2).mono fun b q=>(⟨q.1,Ll q.2 M.size⟩:G.heap.size≤b∧b<w4.heap.size))
  have GE:Hid (Calls prog 30 #[.agg (Na n Q O c1 N P c2),.string ⟨#[118]⟩] w4 (TR 8 w4 (eY n sV))):=Hh (by
   by_cases h5:n.kind=5
   ·have hm:cO 7 n:=(cK h5).1 HF.o.valid
    exact AM _ n sV w4 xh.o (fun b q=>q.2) h5 hm.len (dS 8 9 n HF.o.valid)
   ·exact aHb _ n sV w4 xh.o h5)
  have c4:=aA xb.o;have A:Hid (mZ n (vtS v)=match eY n sV with | some y=>vK y (vtS v) | none=>false):=Hh rfl
  clear M T3 cv TX
  go_upto_region 6 with ((with_reducible refine (GE.o).mono ?_);rintro e w5 ⟨cy,rfl,hy,xg⟩;obtain ⟨a3,l3,c3,a4,l4,x,rfl⟩:=hy.slices)
  have b6:=(Br w5.heap.size w5).alloc (o:=.cells #[Iz ((eY n sV).getD nd0).kind,.bool ((eY n sV).getD nd0).bool,Iz ((eY n sV).getD nd0).num,.string ((eY n sV).getD nd0).text,.slice a3 l3 c3,.slice a4 l4 x] 28) (Lr _);have k6:=Hn w5 (.cells #[Iz ((eY n sV).getD nd0).kind,.bool ((eY n sV).getD nd0).bool,Iz ((eY n sV).getD nd0).num,.string ((eY n sV).getD nd0).text,.slice a3 l3 c3,.slice a4 l4 x] 28);have k:=xg.trans (b6.mono xg.size);have R:=(hy.same (w':=w5.alloc (.cells #[Iz ((eY n sV).getD nd0).kind,.bool ((eY n sV).getD nd0).bool,Iz ((eY n sV).getD nd0).num,.string ((eY n sV).getD nd0).text,.slice a3 l3 c3,.slice a4 l4 x] 28)) fun b q=>b6.block b q.2.1).mono fun b q=>Ll q.2.1 b6.size
  clear b6;generalize xl:(eY n sV).getD nd0=y at k6 R k ⊢;generalize w5.alloc _=u at k6 R k ⊢;generalize w5.heap.size=g6 at k6 ⊢;have X:=Hh (xs.o.trans (k.mono xs.o.size));have Y:=Hh ((k.block _ (Aa xb.o)).trans xb.o);have xr:=Hh k6;have xn:=Hh ((xh.o.same fun b q=>k.block b q.2).mono fun b q=>(⟨q.1,Ll q.2 k.size⟩:G.heap.size≤b∧b<u.heap.size))
  have xz:=Hh R;have xj:=Hh xl;clear hy xg k6 k R xl c4 GE;cases ho:eY n sV with
  | none=>
   have E:=A.o;rw [ho] at E;have I:=Hh (show mZ n (vtS v)=false from E)
   rw [show (none:Option ND).isSome=false from rfl]
   clear ho E A xj;have g:Below u.heap.size u u.drew:=(Br _ _).drew;have Z:=Hh (fun (i:World) (r:Below u.heap.size u i)=>aA ((r.block _ (Aa Y.o)).trans Y.o))
   refine aI (fun w'=>w'.cell? ⟨H,0,none⟩=some (Iz n.kind)∧w'.cell? ⟨H,1,none⟩=some (.bool n.bool)∧w'.cell? ⟨H,2,none⟩=some (Iz n.num)∧w'.cell? ⟨H,3,none⟩=some (.string n.text)∧w'.cell? ⟨H,4,none⟩=some (.slice Q O c1)∧w'.cell? ⟨H,5,none⟩=some (.slice N P c2)) [0] (.take 0 (.take 1 (.take 2 (eP.join true (.ask 3 true (.ask 4 true (.ask 5 true .stop .stop) .stop) (.ask 4 true (.ask 3 true (.ask 5 true .stop .stop) (.ask 5 true (.ask 3 true .stop .stop) .stop)) .stop)) (.ask 6 true (.take 7 (.ask 8 false (.take 9 .stop) .stop)) .stop))))) (by kernel_rfl) (by kernel_rfl) (fun _ d _ _ _ h=>by cases d <;> exact h) (Z.o _ g) ?_
   refine aM _ ?_ rfl rfl (by decide) ?_ (fun K l=>?_);rotate_left;(intro w0 xt;go_simp;(try rfl));(go_simp;refine l _ ?_;clear l K)
   iterate 2 (refine aF _ ?_ rfl rfl ?_ (fun K l=>?_);rotate_left;(intro w0;go_simp;(try rfl));(go_simp;refine l _ ?_;clear l K))
   have B:=Hh (X.o.trans (g.mono X.o.size));generalize u.drew=wd at g B ⊢;have c:=Hh (Z.o _ g);refine dW [35,36,37] (fun vs i=>vs=[undef,undef,undef]∧i=wd) ?_ ?_
   ·refine aH _ rfl ?_ ?_
    rotate_left
    ·go_wp2_with fail
     refine Seg.mk ⟨c.o,?_⟩;refine aH _ rfl trivial ?_
     go_wp2_with fail
     refine Seg.mk ⟨c.o,?_⟩;refine aH _ rfl trivial ?_
     go_wp2_with fail
     refine Seg.mk ⟨c.o,?_⟩;exact aN [undef,undef,undef] ⟨rfl,rfl⟩ (by simp only [gJ,Act.put,Aq,Az,Ba])
    ·refine aH _ rfl trivial ?_
     go_wp2_with fail
     refine Seg.mk ⟨c.o,?_⟩;refine aH _ rfl ?_ ?_;rotate_left
     ·go_wp2_with fail
      refine Seg.mk ⟨c.o,?_⟩;refine aH _ rfl trivial ?_
      go_wp2_with fail
      refine Seg.mk ⟨c.o,?_⟩;exact aN [undef,undef,undef] ⟨rfl,rfl⟩ (by simp only [gJ,Act.put,Aq,Az,Ba])
     ·refine aH _ rfl trivial ?_
      go_wp2_with fail
      refine Seg.mk ⟨c.o,?_⟩;refine aH _ rfl trivial ?_
      go_wp2_with fail
      refine Seg.mk ⟨c.o,?_⟩;exact aN [undef,undef,undef] ⟨rfl,rfl⟩ (by simp only [gJ,Act.put,Aq,Az,Ba])
   ·rintro vs w8 ⟨rfl,x5⟩
    subst x5;simp only [gJ,Act.put,Aq,Az,Ba];have J:=B;have xe:=Hh ((xn.o.same (w':=w8) fun b q=>g.block b q.2).mono fun b q=>(⟨q.1,Ll q.2 g.size⟩:G.heap.size≤b∧b<w8.heap.size))
    have j:=Hh (S.o _ J.o).2;have f6:=aE j.o;have c6:=aA j.o;refine aH _ rfl trivial ?_
    go_wp2_with fail
    refine Seg.mk ⟨c.o,?_⟩;clear g;refine aF _ ?_ rfl rfl ?_ (fun K l=>?_);rotate_left;(intro w0;go_simp;(try rfl));(go_simp;refine l _ ?_;clear l K)
    refine aB _ rfl trivial ?_
    go_wp2
    refine Seg.mk ?_;refine aF _ ?_ rfl rfl ?_ (fun K l=>?_);rotate_left;(intro w0;go_simp;(try rfl));(go_simp;refine l _ ?_;clear l K)
    unfold cQ
    go_wp2
    refine aT (v:=.bool false) j.o results28 rfl rfl rfl ?_;have V:=aO w8 (w.heap.size+1) (Iz n.kind) (.bool n.bool) (Iz n.num) (.string n.text) (.slice Q O c1) (.slice N P c2);have xv:=Z3.o;have r:=B1.o.trans (J.o.mono B1.o.size);refine ⟨(Nc n Q O c1 N P c2),n,0,by rw [I.o];rfl,?_,r.grown V r.size fun b e=>by have:=Ab (show some (w.heap.size+1)=some b from e);omega,HD.o⟩
    exact (xe.o.same fun b q=>V.block b q.2 (by intro e;have:=Ab e;have:=q.1;omega)).mono fun b q=>⟨by have:=q.1;omega,Ll q.2 V.size⟩
  | some y'=>
   have xx:y=y':=by have:=xj.o;rw [ho] at this;exact this.symm
   subst xx;have E:=A.o;rw [ho] at E;have I:=Hh (show mZ n (vtS v)=vK y (vtS v) from E)
   rw [show (some y).isSome=true from rfl]
   clear ho E A xj;have g:Below u.heap.size u u.drew:=(Br _ _).drew;have Z:=Hh (fun (i:World) (r:Below u.heap.size u i)=>aA ((r.block _ (Aa Y.o)).trans Y.o))
   refine aI (fun w'=>w'.cell? ⟨H,0,none⟩=some (Iz n.kind)∧w'.cell? ⟨H,1,none⟩=some (.bool n.bool)∧w'.cell? ⟨H,2,none⟩=some (Iz n.num)∧w'.cell? ⟨H,3,none⟩=some (.string n.text)∧w'.cell? ⟨H,4,none⟩=some (.slice Q O c1)∧w'.cell? ⟨H,5,none⟩=some (.slice N P c2)) [0] (.take 0 (.take 1 (.take 2 (eP.join true (.ask 3 true (.ask 4 true (.ask 5 true .stop .stop) .stop) (.ask 4 true (.ask 3 true (.ask 5 true .stop .stop) (.ask 5 true (.ask 3 true .stop .stop) .stop)) .stop)) (.ask 6 true (.take 7 (.ask 8 false (.take 9 .stop) .stop)) .stop))))) (by kernel_rfl) (by kernel_rfl) (fun _ d _ _ _ h=>by cases d <;> exact h) (Z.o _ g) ?_
   refine aM _ ?_ rfl rfl (by decide) ?_ (fun K l=>?_);rotate_left;(intro w0 xt;go_simp;(try rfl));(go_simp;refine l _ ?_;clear l K)
   iterate 2 (refine aF _ ?_ rfl rfl ?_ (fun K l=>?_);rotate_left;(intro w0;go_simp;(try rfl));(go_simp;refine l _ ?_;clear l K))
   have B:=Hh (X.o.trans (g.mono X.o.size));have T:=Hh ((g.block _ (Aa xr.o)).trans xr.o);have xk:=Hh ((xz.o.same (w':=u.drew) fun b q=>g.block b q).mono fun b q=>(Ll q g.size:b<u.drew.heap.size))
   generalize u.drew=wd at g B T xk ⊢;refine dW [35,36,37] (fun vs i=>vs=[.agg (Na y a3 l3 c3 a4 l4 x),.string (vtS v),.agg #[Iz 3,.bool false,Iz 0,.string (vtS v),Sn,Sn]]∧Below wd.heap.size wd i) ?_ ?_
   ·have cI:=aA T.o
    have c:=Hh (Z.o _ g);refine aH _ rfl ?_ ?_;rotate_left
    ·go_wp2_with fail
     refine Seg.mk ⟨c.o,?_⟩;refine aH _ rfl trivial ?_
     go_wp2_with fail
     refine Seg.mk ⟨c.o,?_⟩;refine aH _ rfl trivial ?_
     go_wp2_with (go_at_call 50;(with_reducible refine (NT.o _).mono ?_);rintro e w7 ⟨rfl,m⟩)
     refine Seg.mk ⟨Z.o _ (g.trans (m.mono g.size)),?_⟩;exact aN [.agg (Na y a3 l3 c3 a4 l4 x),.string (vtS v),.agg #[Iz 3,.bool false,Iz 0,.string (vtS v),Sn,Sn]] ⟨rfl,m⟩ (by simp only [gJ,Act.put,Aq,Az,Ba])
    ·refine aH _ rfl trivial ?_
     go_wp2_with fail
     refine Seg.mk ⟨c.o,?_⟩;refine aH _ rfl ?_ ?_;rotate_left
     ·go_wp2_with fail
      refine Seg.mk ⟨c.o,?_⟩;refine aH _ rfl trivial ?_
      go_wp2_with (go_at_call 50;(with_reducible refine (NT.o _).mono ?_);rintro e w7 ⟨rfl,m⟩)
      refine Seg.mk ⟨Z.o _ (g.trans (m.mono g.size)),?_⟩;exact aN [.agg (Na y a3 l3 c3 a4 l4 x),.string (vtS v),.agg #[Iz 3,.bool false,Iz 0,.string (vtS v),Sn,Sn]] ⟨rfl,m⟩ (by simp only [gJ,Act.put,Aq,Az,Ba])
     ·refine aH _ rfl trivial ?_
      clear cI
      go_wp2_with (go_at_call 50;(with_reducible refine (NT.o _).mono ?_);rintro e w7 ⟨rfl,m⟩)
      have cI:=aA ((m.block _ (Aa T.o)).trans T.o);have xo:=Hh (Z.o _ (g.trans (m.mono g.size)));refine Seg.mk ⟨xo.o,?_⟩;refine aH _ rfl trivial ?_
      go_wp2_with fail
      refine Seg.mk ⟨xo.o,?_⟩;exact aN [.agg (Na y a3 l3 c3 a4 l4 x),.string (vtS v),.agg #[Iz 3,.bool false,Iz 0,.string (vtS v),Sn,Sn]] ⟨rfl,m⟩ (by simp only [gJ,Act.put,Aq,Az,Ba])
   ·rintro vs i ⟨rfl,L⟩
    simp only [gJ,Act.put,Aq,Az,Ba];have SM:=Hh (LM 9 9 _ _ _ _ y (tN (vtS v)) i ((xk.o.same fun b q=>L.block b q).mono fun b q=>Ll q L.size) ((cJ (fun b=>b<i.heap.size) i 3 false 0 (vtS v) (by have:=xw.o;unfold maxLen;omega)).deeper (show 1≤9 by decide)) (fun b q=>q) (fun b q=>q))
    refine aH _ rfl trivial ?_
    go_wp2_with (go_at_call 54;(with_reducible refine (SM.o).mono ?_);rintro e w8 ⟨bz,rfl,xf,xp⟩)
    have t:=L.trans (xp.mono L.size);refine Seg.mk ⟨Z.o _ (g.trans (t.mono g.size)),?_⟩;have J:=Hh (B.o.trans (t.mono B.o.size));have xe:=Hh (((xn.o.same (w':=wd) fun b q=>g.block b q.2).same fun b q=>t.block b (Ll q.2 g.size)).mono fun b q=>(⟨q.1,Ll (Ll q.2 g.size) t.size⟩:G.heap.size≤b∧b<w8.heap.size))
    have j:=Hh (S.o _ J.o).2;have f6:=aE j.o;have c6:=aA j.o;have xa:bz=mZ n (vtS v):=by
     rw [I.o];cases e:vK y (vtS v) with
     | true=>exact xf.2 (nQ.1 e)
     | false=>
      cases bz with
      | false=>rfl
      | true=>rw [nQ.2 (xf.1 rfl)] at e;cases e
    have x6:=Hh xa;clear xf xp t L g SM xa;refine aF _ ?_ rfl rfl ?_ (fun K l=>?_);rotate_left;(intro w0;go_simp;(try rfl));(go_simp;refine l _ ?_;clear l K)
    refine aB _ rfl trivial ?_
    go_wp2
    refine Seg.mk ?_;refine aF _ ?_ rfl rfl ?_ (fun K l=>?_);rotate_left;(intro w0;go_simp;(try rfl));(go_simp;refine l _ ?_;clear l K)
    unfold cQ
    go_wp2
    refine aT (v:=.bool bz) j.o results28 rfl rfl rfl ?_;have V:=aO w8 (w.heap.size+1) (Iz n.kind) (.bool n.bool) (Iz n.num) (.string n.text) (.slice Q O c1) (.slice N P c2);have xv:=Z3.o;have r:=B1.o.trans (J.o.mono B1.o.size);refine ⟨(Nc n Q O c1 N P c2),n,0,by rw [x6.o];rfl,?_,r.grown V r.size fun b e=>by have:=Ab (show some (w.heap.size+1)=some b from e);omega,HD.o⟩
    exact (xe.o.same fun b q=>V.block b q.2 (by intro e;have:=Ab e;have:=q.1;omega)).mono fun b q=>⟨by have:=q.1;omega,Ll q.2 V.size⟩
 ·have x7:(e0 != 0)=true:=by simp [h0]
  have xm:n=nd0:=HD.o.bad h0;have HE:Hid ((decide (e0=0) && mZ n (vtS v))=false):=Hh (by rw [Ar h0];rfl)
  have j:=Hh (S.o _ C.o).2;have f6:=aE j.o;have c6:=aA j.o;have xy:=Hh xm;clear h0 TX NT xm
  go_wp2
  refine aT (v:=.bool false) j.o results28 rfl rfl rfl ?_;have V:=aO w3 (w.heap.size+1) (Iz 0) (.bool false) (Iz 0) (.string ⟨#[]⟩) (Sn) (Sn);have r:=B1.o.trans (C.o.mono B1.o.size);refine ⟨Y6,n,e0,by rw [HE.o],?_,r.grown V r.size fun b e=>by have:=Ab (show some (w.heap.size+1)=some b from e);omega,HD.o⟩
  rw [xy.o];exact (cJ _ _ 0 false 0 ⟨#[]⟩ (by decide)).deeper (by omega)
end Go.Proofs.YtncdpanfefnjlaaGreatDoor