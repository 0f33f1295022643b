import Derived.Test.YtncdpanfefnjlaaGreatDoorMfa
set_option linter.unusedVariables false
set_option linter.unusedSimpArgs false
set_option maxHeartbeats 1600000
set_option maxRecDepth 100000
namespace Go.Proofs.YtncdpanfefnjlaaGreatDoor
open Go.Proofs.Tryz
open Go.RowKit
structure NSt (TN TS:TypeId) (d:Nat) (w wx:World) (g nb C:Nat) (k:Int) (vn vi:Value) (ns:List Bt) (A:List NC):Prop where
 res:wx.heap[w.heap.size]?=some (.cells Z6 TN (0,0))
 nod:wx.heap[nb]?=some (.cells #[Iz k,.bool false,Iz 0,.string ⟨#[]⟩,vn,vi] TN (0,0))
 lo:g<w.heap.size∧w.heap.size<nb∧nb<C∧C≤wx.heap.size
 names:jS TS C wx vn ns
 items:iE TN d C vn.ownBlock wx vi A
 gro:w.grownBy wx (some g)
section
variable {TN TS:TypeId} {d:Nat} {w wx wn:World} {g nb C:Nat} {k:Int} {vn vi:Value} {ns:List Bt} {A:List NC}
theorem NSt.grown (h:NSt TN TS d w wx g nb C k vn vi ns A) (a:wx.grownBy wn (some g)):NSt TN TS d w wn g nb C k vn vi ns A:=by
 obtain ⟨j,i,l,c⟩:=h.lo;refine ⟨cP a (by omega) h.res,cP a (by omega) h.nod,⟨j,i,l,Af c a.size⟩,h.names.kept a ?_,h.items.kept a (fun r e=>by cases e;exact .inl (by omega)) (.inl rfl),aJ h.gro a⟩
 cases e:vn.ownBlock with
 | none=>exact .inl rfl
 | some b=>exact .inr (fun f=>by cases f;have:=(h.names.1.lt _ e).1;omega)
theorem NSt.below (h:NSt TN TS d w wx g nb C k vn vi ns A) (a:Below wx.heap.size wx wn):NSt TN TS d w wn g nb C k vn vi ns A:=h.grown (aK a (Lr _) _)
theorem NSt.apart (h:NSt TN TS d w wx g nb C k vn vi ns A) {row:Option Nat} (b:row=vn.ownBlock∨row=vi.ownBlock) (a:wx.grownBy wn row) (j:Nat) (i:j<C):wn.heap[j]?=wx.heap[j]?:=by
 obtain ⟨l,f,m,c⟩:=h.lo;refine a.block j (by omega) fun e=>?_
 rcases b with rfl | rfl
 ·have:=(h.names.1.lt j e.symm).1;omega
 ·have:=(h.items.1.lt j e.symm).1;omega
theorem NSt.gro2 (h:NSt TN TS d w wx g nb C k vn vi ns A) {row:Option Nat} (e:row=vn.ownBlock∨row=vi.ownBlock) (a:wx.grownBy wn row):w.grownBy wn (some g):=by
 obtain ⟨l,j,m,f⟩:=h.lo;exact ⟨a.os.trans h.gro.os,a.tape.trans h.gro.tape,a.output.trans h.gro.output,Af h.gro.size a.size,fun i c b=>(h.apart e a i (by omega)).trans (h.gro.block i c b)⟩
theorem NSt.name {a:Value} {s:Bt} (h:NSt TN TS d w wx g nb C k vn vi ns A) (c:wn.ownsRow C TS 1 a (ns.length+1) (ns.map Value.string++[.string s])) (f:wx.grownBy wn vn.ownBlock) (o:a.ownBlock=vn.ownBlock∨∀b,a.ownBlock=some b→wx.heap.size≤b) (u:s.size≤maxLen - 2) :
 NSt TN TS d w (wn.setCell ⟨nb,4,none⟩ a) g nb C k a vi (ns++[s]) A:=by
 obtain ⟨B,z,q,x⟩:=h.lo;have m:∀i,i ≠ nb→(wn.setCell ⟨nb,4,none⟩ a).heap[i]?=wn.heap[i]?:=fun i p=>heap_setCell_other wn ⟨nb,4,none⟩ i _ p
 have n:(wn.setCell ⟨nb,4,none⟩ a).heap.size=wn.heap.size:=by simp
 have l:=aV wn nb 4 a;refine ⟨(m _ (by omega)).trans ((h.apart (.inl rfl) f _ (by omega)).trans h.res),lW ((h.apart (.inl rfl) f nb q).trans h.nod) a,⟨B,z,q,by rw [n];exact Af x f.size⟩,?_,?_,?_⟩
 ·exact (h.names.push c u).kept l (by
   cases e:a.ownBlock with
   | none=>exact .inl rfl
   | some b=>exact .inr (fun y=>by cases y;have:=(c.lt _ e).1;omega))
 ·have v:iE TN d C a.ownBlock wn vi A:=h.items.kept f (fun r e=>.inr e) o
  exact v.kept l (fun r e=>by cases e;exact .inl q) (.inl rfl)
 ·have j:=h.gro2 (.inl rfl) f
  exact ⟨j.os,j.tape,j.output,by rw [n];exact j.size,fun i p t=>(m i (by omega)).trans (j.block i p t)⟩
theorem NSt.item {a:Value} {s:Vl} {x:ND} (h:NSt TN TS d w wx g nb C k vn vi ns A) (j:wn.ownsRow C TN 6 a (A.length+1) (cM A++s)) (c:wx.grownBy wn vi.ownBlock) (o:a.ownBlock=vi.ownBlock∨∀b,a.ownBlock=some b→wx.heap.size≤b)
 (z:aD d (fun b=>C≤b∧b<wx.heap.size∧vi.ownBlock ≠ some b∧vn.ownBlock ≠ some b) wx s x) :
 NSt TN TS d w (wn.setCell ⟨nb,5,none⟩ a) g nb C k vn a ns (A++[(s,x)]):=by
 obtain ⟨B,y,t,v⟩:=h.lo;have f:∀i,i ≠ nb→(wn.setCell ⟨nb,5,none⟩ a).heap[i]?=wn.heap[i]?:=fun i q=>heap_setCell_other wn ⟨nb,5,none⟩ i _ q
 have n:(wn.setCell ⟨nb,5,none⟩ a).heap.size=wn.heap.size:=by simp
 have m:=aV wn nb 5 a;refine ⟨(f _ (by omega)).trans ((h.apart (.inr rfl) c _ (by omega)).trans h.res),kO ((h.apart (.inr rfl) c nb t).trans h.nod) a,⟨B,y,t,by rw [n];exact Af v c.size⟩,?_,?_,?_⟩
 ·refine (h.names.kept c ?_).kept m ?_
  ·cases e:vn.ownBlock with
   | none=>exact .inl rfl
   | some b=>exact .inr (fun p=>h.items.2.1 b e p.symm)
  ·cases e:vn.ownBlock with
   | none=>exact .inl rfl
   | some b=>exact .inr (fun p=>by cases p;have:=(h.names.1.lt _ e).1;omega)
 ·exact (h.items.push j c o (fun b e=>(h.names.1.lt b e).2) z).kept m (fun r e=>by cases e;exact .inl t) (.inl rfl)
 ·have l:=h.gro2 (.inr rfl) c
  exact ⟨l.os,l.tape,l.output,by rw [n];exact l.size,fun i q u=>(f i (by omega)).trans (l.block i q u)⟩
theorem NSt.dice {B:Nat} (h:NSt TN TS d w wx g nb C k vn vi ns A) {row:Option Nat} (b:row=vn.ownBlock∨row=vi.ownBlock) (c:bG B wx g) (a:wx.grownBy wn row) (o:Nat) (v:Value):bG B (wn.setCell ⟨nb,o,none⟩ v) g:=by
 obtain ⟨l,f,m,e⟩:=h.lo;exact bG.setNew (c.same fun j i=>h.apart b a j (by omega)) (by omega) _ _
theorem NSt.begin (b:wx.heap[w.heap.size]?=some (.cells Z6 TN (0,0))) (a:wx.heap[nb]?=some (.cells #[Iz k,.bool false,Iz 0,.string ⟨#[]⟩,Sn,Sn] TN (0,0)))
 (f:g<w.heap.size) (e:w.heap.size<nb) (c:w.grownBy wx (some g)):NSt TN TS d w wx g nb wx.heap.size k (Sn) (Sn) [] []:=
 ⟨b,a,⟨f,e,Aa a,Lr _⟩,jS.nil _ _ _,iE.nil _ _ _ _ _,c⟩
theorem NSt.node (h:NSt TN TS d w wx g nb C k vn vi ns A):aD (d+1) (fun b=>w.heap.size<b∧b<wx.heap.size) wx [Iz k,.bool false,Iz 0,.string ⟨#[]⟩,vn,vi] (.mk k false 0 ⟨#[]⟩ ns (aG A)):=by
 obtain ⟨i,e,j,c⟩:=h.lo;exact ⟨vn,vi,rfl,(show (0:Nat)≤maxLen - 2 from Av _),h.names.strs.mono fun b a=>⟨by omega,a.2⟩,h.items.nodes.mono (fun b a=>⟨by omega,a.2⟩) fun f x q=>q.mono fun b a=>⟨by omega,a.2⟩⟩
end
theorem aD.one {d:Nat} {S:Nat→Prop} {w:World} {b:Vl} {x:ND} (h:aD d S w b x):∀u ∈ b,u.oneCell'=true:=by
 cases d with
 | zero=>exact h.elim
 | succ d=>
  obtain ⟨f,c,rfl,_,⟨e,c1,rfl,_⟩,⟨g,c2,rfl,_⟩⟩:=h;intro u a;simp only [Bl,Bn,Dl] at a;rcases a with rfl | rfl | rfl | rfl | rfl | rfl <;> rfl
theorem NSt.fresh {o r:TypeId} {d:Nat} {w n c a:World} {g p C:Nat} {k:Int} {l j:Value} {ns:List Bt} {A:List NC} {m:Vl} {x:ND}
 (h:NSt o r d w n g p C k l j ns A) (q:aD d (fun b=>n.heap.size≤b∧b<c.heap.size) c m x) (i:Below c.heap.size c a) :
 aD d (fun b=>C≤b∧b<a.heap.size∧j.ownBlock ≠ some b∧l.ownBlock ≠ some b) a m x:=by
 obtain ⟨u,t,v,s⟩:=h.lo;refine (q.same (w':=a) fun b f=>i.block b f.2).mono fun b f=>⟨by omega,Ll f.2 i.size,fun e=>?_,fun e=>?_⟩
 ·have:=(h.items.1.lt b e).2;omega
 ·have:=(h.names.1.lt b e).2;omega
theorem fV {v:Value} {a m c H:Nat} (h:v.ownBlock=some a∨a=H):(Value.slice (some ⟨a,0,none⟩) m c).ownBlock=v.ownBlock∨∀b,(Value.slice (some ⟨a,0,none⟩) m c).ownBlock=some b→H≤b:=by
 rcases h with h | h
 ·exact .inl h.symm
 ·exact .inr fun b d=>by
   have:a=b:=by simpa [Value.ownBlock] using d
   omega
theorem GX {w:World} {C e size n:Nat} {v:Value} {c:Vl} (h:w.ownsRow C e size v n c) {b:Nat} (d:w.heap.size≤b):v.ownBlock ≠ some b:=fun a=>by have:=(h.lt b a).2;omega
def pU (d:Nat) (w:World) (e:Ending) (w':World):Prop:=
 ∃a x,e=.returned (.agg a.toArray)∧aD d (fun b=>w.heap.size≤b∧b<w'.heap.size) w' a x∧gF d x=true
theorem NSt.viForm {j o:TypeId} {d:Nat} {w m:World} {g l C:Nat} {k:Int} {n b:Value} {ns:List Bt} {A:List NC} (h:NSt j o d w m g l C k n b ns A):∃i f,b=.slice i A.length f:=by
 obtain ⟨a,c,e,_⟩:=h.items.nodes;exact ⟨a,c,by rw [e,aG,Bk]⟩
theorem NSt.vnForm {j o:TypeId} {d:Nat} {w m:World} {g l C:Nat} {k:Int} {b i:Value} {ns:List Bt} {A:List NC} (h:NSt j o d w m g l C k b i ns A):∃n f,b=.slice n ns.length f:=by
 obtain ⟨a,c,e,_⟩:=h.names.strs;exact ⟨a,c,e⟩
def UR (w:World) (b o:Nat):Nat:=match w.cell? ⟨b,o,none⟩ with
 | some (.slice _ l _)=>l
 | _=>0
theorem NSt.len {e i:TypeId} {d:Nat} {w b:World} {g a C:Nat} {k:Int} {f c:Value} {ns:List Bt} {A:List NC} (h:NSt e i d w b g a C k f c ns A):UR b a 5=A.length:=by
 obtain ⟨l,j,rfl⟩:=h.viForm;unfold UR;rw [(aA h.nod).2.2.2.2.2]
theorem NSt.done {o s:TypeId} {d:Nat} {w j:World} {g p C:Nat} {k:Int} {f c:Value} {ns:List Bt} {A:List NC} (h:NSt o s d w j g p C k f c ns A) :
 aD (d+1) (fun b=>w.heap.size≤b∧b<(dJ j w.heap.size (Iz k) (.bool false) (Iz 0) (.string ⟨#[]⟩) f c).heap.size) (dJ j w.heap.size (Iz k) (.bool false) (Iz 0) (.string ⟨#[]⟩) f c) [Iz k,.bool false,Iz 0,.string ⟨#[]⟩,f,c] (.mk k false 0 ⟨#[]⟩ ns (aG A))
 ∧ w.grownBy (dJ j w.heap.size (Iz k) (.bool false) (Iz 0) (.string ⟨#[]⟩) f c) (some g)∧∀B,bG B j g→bG B (dJ j w.heap.size (Iz k) (.bool false) (Iz 0) (.string ⟨#[]⟩) f c) g:=by
 obtain ⟨x,v,y,u⟩:=h.lo;have a:=aO j w.heap.size (Iz k) (.bool false) (Iz 0) (.string ⟨#[]⟩) f c;refine ⟨?_,?_,fun B r=>?_⟩
 ·exact (h.node.same fun b l=>a.block b l.2 (by intro e;have:=Ab e;omega)).mono fun b l=>⟨by omega,Ll l.2 a.size⟩
 ·have:=h.gro
  exact ⟨a.os.trans this.os,a.tape.trans this.tape,a.output.trans this.output,Af this.size a.size,fun i m n=>(a.block i (Ll m this.size) (by intro e;have:=Ab e;omega)).trans (this.block i m n)⟩
 ·exact r.same fun q t=>a.block q (by omega) (by intro e;have:=Ab e;omega)
theorem mX {n B g:Nat} {w d:World} (f:1≤n) (o:g<w.heap.size) (a:w.grownBy d (some g)) (j:bG B d g) (k:Int) (b:Bool) (z:Int) (t:Bt) (m:t.size≤maxLen - 2) (l:gF n (.mk k b z t [] [])=true) :
 pU n w (.returned (.agg #[Iz k,.bool b,Iz z,.string t,Sn,Sn])) (dJ d w.heap.size (Iz k) (.bool b) (Iz z) (.string t) (Sn) (Sn))
 ∧ w.grownBy (dJ d w.heap.size (Iz k) (.bool b) (Iz z) (.string t) (Sn) (Sn)) (some g)∧bG B (dJ d w.heap.size (Iz k) (.bool b) (Iz z) (.string t) (Sn) (Sn)) g:=by
 have c:=aO d w.heap.size (Iz k) (.bool b) (Iz z) (.string t) (Sn) (Sn);refine ⟨⟨[Iz k,.bool b,Iz z,.string t,Sn,Sn],_,rfl,(cJ _ _ k b z t m).deeper f,l⟩,?_,?_⟩
 ·exact ⟨c.os.trans a.os,c.tape.trans a.tape,c.output.trans a.output,Af a.size c.size,fun i h f=>(c.block i (Ll h a.size) (by intro e;have:=Ab e;omega)).trans (a.block i h f)⟩
 ·exact j.same fun q p=>c.block q (by have:=j.lt;omega) (by intro e;have:=Ab e;omega)
def OM (d:Nat) (w:World) (e:Ending) (w':World):Prop:=
 ∃a x,e=.returned (.agg a.toArray)∧aD d (fun b=>w.heap.size≤b∧b<w'.heap.size) w' a x∧cO (d - 1) x∧x.items.length≤3∧(∀y,y ∈ x.items→gF (d - 1) y=true)∧bK d x≤qQ d
def lZ:List Bt:=[⟨#[97]⟩,⟨#[98]⟩,⟨#[118]⟩,⟨#[100]⟩]
def uD (d:Nat) (w:World) (e:Ending) (w':World):Prop:=
 ∃a x,e=.returned (.agg a.toArray)∧aD d (fun b=>w.heap.size≤b∧b<w'.heap.size) w' a x∧cO (d - 1) x∧x.items.length≤3∧(∀y,y ∈ x.items→gF (d - 1) y=true)∧bK d x≤qQ d∧∀s,s ∈ x.names→s ∈ lZ
theorem uD.k {d:Nat} {w w':World} {e:Ending} (h:uD d w e w'):OM d w e w':=by
 obtain ⟨j,x,b,g,f,i,a,c,-⟩:=h;exact ⟨j,x,b,g,f,i,a,c⟩
end Go.Proofs.YtncdpanfefnjlaaGreatDoor
namespace Go.Proofs.YtncdpanfefnjlaaGreatDoor
open Go.Proofs.Tryz
open Go.ChangeShapes Go.WideShapes Go.ChangeAt Go.RowKit
theorem ML:∀s,s ∈ lZ→s.size≤maxLen - 2:=by decide +kernel
theorem RI:∀s,s ∈ lZ→s.size≤1:=by decide +kernel
theorem YE:∀s,s ∈ lZ→aZ s=true:=by decide +kernel
theorem IC:lZ.Nodup:=by decide +kernel
theorem rE:∃i,Tryz.prog.info? 28=some i∧i.zero=some (.agg Z6)∧i.size=6∧i.bytes=88:=
 Ea (show (Tryz.prog.info? 28).map (fun i=>(i.zero,i.size,i.bytes))=some (some (.agg Z6),6,88) by kernel_rfl)
theorem rD:∃i,Tryz.prog.info? 9=some i∧i.zero=some (.string ⟨#[]⟩)∧i.size=1∧i.bytes=16:=
 Ea (show (Tryz.prog.info? 9).map (fun i=>(i.zero,i.size,i.bytes))=some (some (.string ⟨#[]⟩),1,16) by kernel_rfl)
theorem aDa (B g n:Nat) (w:World) (hn:2≤n) (zp:n<100) (hd:bG B w g)
 (KN:∀wx:World,bG B wx g→Calls prog 20 #[.pointer (some ⟨g,0,none⟩),Iz ((n:Int) - 1)] wx fun e w'=>pU (n - 1) wx e w'∧wx.grownBy w' (some g)∧bG B w' g) :
 Calls prog 7 #[.pointer (some ⟨g,0,none⟩),Iz n] w fun e w'=>
  uD n w e w'∧w.grownBy w' (some g)∧bG B w' g:=by
 have N4:=Hh (fun (wx:World) (hx:bG B wx g)=>jG B g 4 4 rfl wx (by decide) (by decide) hx)
 have y6:=Hh KN;have y4:=hd.lt;obtain ⟨z1,xn⟩:∃o,o=Obj.cells Z6 28 (0,0):=⟨_,rfl⟩;obtain ⟨z2,xk⟩:∃o,o=Obj.cells #[Iz 5,.bool false,Iz 0,.string ⟨#[]⟩,Sn,Sn] 28 (0,0):=⟨_,rfl⟩;have J:NSt 28 9 (n - 1) w ((w.alloc z1).alloc z2) g (w.heap.size+1) ((w.alloc z1).alloc z2).heap.size 5 (Sn) (Sn) [] []:=by
  have e1:(w.alloc z1).heap.size=w.heap.size+1:=by simp
  have h2:=Hn (w.alloc z1) z2;rw [e1] at h2;refine NSt.begin ?_ (h2.trans (by rw [xk])) y4 (by omega) (aJ (dV w z1 _) (dV _ z2 _))
  rw [←xn];exact (Bj (w.alloc z1) z2 w.heap.size (by omega)).trans (Hn w z1)
 have x5:bG B ((w.alloc z1).alloc z2) g:=(hd.go ((Br w.heap.size w).alloc (Lr _) z1)).go ((Br _ _).alloc (Lr _) z2);subst xn;subst xk;clear KN hd
 go_enter func7,ntmps7
 go_upto_region 2 with fail
 obtain ⟨W1,xr⟩:∃W,W=(w.alloc (.cells Z6 28)).alloc (.cells #[Iz 5,.bool false,Iz 0,.string ⟨#[]⟩,Sn,Sn] 28):=⟨_,rfl⟩;rw [←xr] at J x5;rw [←xr];obtain ⟨C,hC⟩:∃C,C=W1.heap.size:=⟨_,rfl⟩;rw [←hC] at J;clear hC xr;obtain ⟨nb,xw⟩:∃nb,nb=w.heap.size+1:=⟨_,rfl⟩;rw [←xw] at J;rw [←xw];clear xw
 go_upto_region 3 with ((with_reducible refine (N4.o _ x5).mono ?_);rintro e w1 ⟨⟨k,hk,rfl⟩,yg,yo⟩)
 have yp:=Hh (J.grown yg);have yc:=Hh yo;clear J yg yo x5 N4;obtain ⟨ip,yy,zg,xn,xk⟩:=rE;obtain ⟨iq,yu,yz,zf,y3⟩:=rD;have zd:=underlying26;have y7:=underlying25
 go_loopw [10] (fun i wr=>∃ (j:Nat) (vn vi:Value) (ns:List Bt) (A:List NC),i=Iz j∧j≤k∧NSt 28 9 (n - 1) w wr g nb C 5 vn vi ns A∧ns=lZ.take j∧A.length=j∧(∀y,y ∈ A→gF (n - 1) y.2=true)∧bG B wr g) (fun i _=>k - (intOf i).toNat)
 case atStart=>exact ⟨0,_,_,[],[],rfl,Av _,yp.o,rfl,rfl,(fun y R=>by simp at R),yc.o⟩
 case round=>
  clear yp yc;obtain ⟨j,vn,vi,ns,A,rfl,zl,t,S,hA,hval,xm⟩:=hrel
  by_cases hj:j<k
  ·have zo:(j:Int)<(k:Int):=by omega
   have zj:(j:Int)<4:=by omega
   have zq:(0:Int)≤(j:Int):=by omega
   obtain ⟨s,hs⟩:∃s,lZ[j]?=some s:=⟨lZ[j]'(by show j<4;omega),Ac _⟩
   have yj:([Value.string ⟨#[97]⟩,Value.string ⟨#[98]⟩,Value.string ⟨#[118]⟩,Value.string ⟨#[100]⟩]:Vl)[j]?=some (.string s):=by
    have h:(lZ.map Value.string)[j]?=some (.string s):=by rw [Be,hs];rfl
    exact h
   have y5:s.size≤maxLen - 2:=ML s (Ao hs);have yi:ns.length=j:=by rw [S,Bc];show min j 4=j;omega
   have M:=Hh S;have HA:=Hh hA;have HV:=Hh hval;have HS:=Hh hs;have P:=t.below ((Br wr.heap.size wr).drew);have xc:=xm.go ((Br wr.heap.size wr).drew);have xz:=(aA P.nod).2.2.2.2.1;clear S hA hval hs t xm
   go_upto_region 5 with fail
   refine aI (fun w'=>w'.cell? ⟨nb,4,none⟩=some vn) [1] (.take 0 (.take 1 (.take 3 (.ask 2 true (.take 4 (.ask 5 true (.ask 6 true (.ask 7 false (.ask 8 false (.ask 9 false .stop .stop) .stop) .stop) .stop) .stop)) .stop)))) (by kernel_rfl) (by kernel_rfl) (fun _ d _ _ _ h=>by cases d <;> exact h) xz ?_
   generalize wr.drew=T at P xc xz ⊢;refine aF _ ?_ rfl rfl ?_ (fun K D=>?_);rotate_left;(intro w0;go_simp;(try rfl));(go_simp;refine D _ ?_;clear D K)
   refine aM _ ?_ rfl rfl (by decide) ?_ (fun K D=>?_);rotate_left;(intro w0 y2;go_simp;(try rfl));(go_simp;refine D _ ?_;clear D K)
   refine aF _ ?_ rfl rfl ?_ (fun K D=>?_);rotate_left;(intro w0;go_simp;(try rfl));(go_simp;refine D _ ?_;clear D K)
   obtain ⟨o1,x6⟩:∃o,o=Obj.cells #[.string ⟨#[97]⟩,.string ⟨#[98]⟩,.string ⟨#[118]⟩,.string ⟨#[100]⟩] 9 (0,0):=⟨_,rfl⟩;have F:=P.below ((Br T.heap.size T).alloc (o:=o1) (Lr _));have O:=xc.go ((Br T.heap.size T).alloc (o:=o1) (Lr _));have xu:(T.alloc o1).cell? ⟨T.heap.size,j,none⟩=some (.string s):=cT _ ((Hn T o1).trans (by rw [x6])) rfl j _ yj
   have xd:(T.alloc o1).heap.size=T.heap.size+1:=by simp
   rw [x6] at xu xd F O;clear x6;refine aH _ rfl trivial ?_
   go_wp2_with fail
   generalize hW:T.alloc (.cells #[.string ⟨#[97]⟩,.string ⟨#[98]⟩,.string ⟨#[118]⟩,.string ⟨#[100]⟩] 9)=W2 at xu xd F O ⊢;have xy:=(aA F.nod).2.2.2.2.1;clear hW yj;refine Seg.mk ⟨xy,?_⟩;refine aF _ ?_ rfl rfl ?_ (fun K D=>?_);rotate_left;(intro w0;go_simp;(try rfl));(go_simp;refine D _ ?_;clear D K)
   refine aH _ rfl trivial ?_
   go_wp2_with fail
   refine Seg.mk ⟨xy,?_⟩;have r:=F.below ((Br W2.heap.size W2).alloc (o:=.cells #[.string s] 9) (Lr _));have xe:=O.go ((Br W2.heap.size W2).alloc (o:=.cells #[.string s] 9) (Lr _));have xl:=Hn W2 (.cells #[.string s] 9);rw [xd] at xl;have V:(W2.alloc (.cells #[.string s] 9)).heap.size=W2.heap.size+1:=by simp
   refine aH _ rfl trivial ?_
   go_wp2_with fail
   generalize hW:W2.alloc (.cells #[.string s] 9)=W3 at xl V r xe ⊢;have yl:=(aA r.nod).2.2.2.2.1;clear hW F O;refine Seg.mk ⟨yl,?_⟩;have ya:∀q u,([Value.string s]:Vl)[q]?=some u→W3.cell? ((⟨T.heap.size+1,0,none⟩:Addr).add q)=some u:=by
    intro q u hq;have:=cT [Value.string s] xl rfl q u hq;rw [Bs,Ca];exact this
   have yq:=Hh ya;have HW:=Hh V;have hO:=Hh r.names.1;have ye:=r.lo.2.2.2;have HI:=Hh yu;clear ya xl V;refine aB _ rfl trivial ?_
   go_wp2_with ((refine Ay _ rfl (.tmp 14) (.tmp 19) 25 rfl C 9 iq (.string ⟨#[]⟩) 1 16 y7 HI.o yz zf y3 rfl (by decide) vn ns.length _ rfl hO.o ⟨T.heap.size+1,0,none⟩ 1 1 [.string s] rfl rfl yq.o (by intro u hu;simp at hu;subst hu;rfl) (by decide) (by unfold maxLen;omega) (by omega) ye _ rfl ?_);intro gg cc W4 I f Z yx)
   refine Seg.mk ?_;refine aB _ rfl trivial ?_
   go_wp2_with fail
   refine Seg.mk ?_;have H:=r.name I f (fV Z) y5;have Q:=r.dice (.inl rfl) xe f 4 (.slice (some ⟨gg,0,none⟩) (ns.length+1) cc);have xx:=(r.apart (.inl rfl) f nb r.lo.2.2.1).trans r.nod;have yt:=aE xx;have y8:=aA xx;rw [yi] at H Q;clear I f Z r xe xx yi hO yq ye HW xy yl xz xu P xc;refine bQ _ rfl trivial ?_
   go_wp2_with fail
   generalize W4.setCell ⟨nb,4,none⟩ (.slice (some ⟨gg,0,none⟩) (j+1) cc)=wl at H Q ⊢;clear yt y8;generalize Value.slice (some ⟨gg,0,none⟩) (j+1) cc=zk at H ⊢;have L:=H.below ((Br wl.heap.size wl).drew);have X:=Q.go ((Br wl.heap.size wl).drew);have x7:=(aA L.nod).2.2.2.2.2;clear H Q;refine aI (fun w'=>w'.cell? ⟨nb,5,none⟩=some vi) [1] (.take 0 (.take 1 (.take 2 (.take 3 (.take 4 (.ask 5 true (.ask 6 true (.ask 7 false (.ask 8 false (.ask 9 false .stop .stop) .stop) .stop) .stop) .stop)))))) (by kernel_rfl) (by kernel_rfl) (fun _ d _ _ _ h=>by cases d <;> exact h) x7 ?_
   generalize wl.drew=zr at L X x7 ⊢;refine aF _ ?_ rfl rfl ?_ (fun K D=>?_);rotate_left;(intro w0;go_simp;(try rfl));(go_simp;refine D _ ?_;clear D K)
   refine aM _ ?_ rfl rfl (by decide) ?_ (fun K D=>?_);rotate_left;(intro w0 y2;go_simp;(try rfl));(go_simp;refine D _ ?_;clear D K)
   iterate 3 (refine aF _ ?_ rfl rfl ?_ (fun K D=>?_);rotate_left;(intro w0;go_simp;(try rfl));(go_simp;refine D _ ?_;clear D K))
   refine aH _ rfl trivial ?_
   go_wp2_with (go_at_call 20;(with_reducible refine (y6.o _ X).mono ?_);rintro e w6 ⟨⟨cs,x,rfl,E,ys⟩,y0,xo⟩)
   have xa:=L.grown y0;have ym:=(aA xa.nod).2.2.2.2.2;refine Seg.mk ⟨ym,?_⟩;have b7:=(Br w6.heap.size w6).alloc (o:=.cells cs.toArray 28) (Lr _);have p:=xa.below b7;have N:=xo.go b7;have xj:=L.fresh E b7;have xg:=Hn w6 (.cells cs.toArray 28);have xb:=E.one;obtain ⟨va,vb,xi⟩:=E.form;have zm:=Hh xi;rw [xi] at b7 p N xj xg xb;rw [xi];clear xi E;refine aH _ rfl trivial ?_
   go_wp2_with fail
   generalize hW:w6.alloc (.cells #[Iz x.kind,.bool x.bool,Iz x.num,.string x.text,va,vb] 28)=W7 at b7 p N xj xg ⊢;have y9:=(aA p.nod).2.2.2.2.2;clear hW xa ym L x7 X xo;refine Seg.mk ⟨y9,?_⟩;have yk:∀q u,([Value.int IntKind.i64 x.kind,.bool x.bool,Iz x.num,.string x.text,va,vb]:Vl)[q]?=some u→W7.cell? ((⟨w6.heap.size,0,none⟩:Addr).add q)=some u:=by
    intro q u hq;have:=cT _ xg rfl q u hq;rw [Bs,Ca];exact this
   have yb:=Hh yk;have ze:=Hh yy;have yd:=Hh p.items.1;have xp:=p.lo.2.2.2;have x9:=Hh xb;have x8:A.length=j:=HA.o;have yr:=Hh xj;clear yk xg xb xj;refine aB _ rfl trivial ?_
   go_wp2_with ((refine Ay _ rfl (.tmp 23) (.tmp 28) 26 rfl C 28 ip (.agg Z6) 6 88 zd ze.o zg xn xk rfl (by decide) vi A.length _ rfl yd.o ⟨w6.heap.size,0,none⟩ 1 1 [Iz x.kind,.bool x.bool,Iz x.num,.string x.text,va,vb] rfl rfl yb.o x9.o (by decide) (by unfold maxLen;omega) (by omega) xp _ rfl ?_);intro g8 c8 W8 I f Z yx)
   refine Seg.mk ?_;refine aB _ rfl trivial ?_
   go_wp2_with fail
   refine Seg.mk ?_;have U:=p.item I f (fV Z) yr.o;have Y:=p.dice (.inr rfl) N f 5 (.slice (some ⟨g8,0,none⟩) (A.length+1) c8);have xt:=(p.apart (.inr rfl) f nb p.lo.2.2.1).trans p.nod;have zc:=aE xt;have yv:=aA xt;rw [x8] at U Y;clear I f Z p N xt x8 yd yb xp;refine bQ _ rfl trivial ?_
   go_wp2_with fail
   generalize W8.setCell ⟨nb,5,none⟩ (.slice (some ⟨g8,0,none⟩) (j+1) c8)=w9 at U Y ⊢;clear zc yv
   go_roundw
   case rel=>
    refine ⟨j+1,_,_,_,_,by go_num,by omega,U,?_,?_,?_,Y⟩
    ·rw [M.o,Bf,HS.o];rfl
    ·rw [Lg,HA.o];rfl
    ·intro y R
     rcases Bg.1 R with R | R
     ·exact HV.o y R
     ·cases At.1 R;exact ys
   case measure=>simp [intOf];omega
  ·have zh:¬ (j:Int)<(k:Int):=by omega
   have xq:j=k:=by omega
   obtain ⟨an,L1,xh,y1⟩:∃a l c,vn=Value.slice a l c:=by obtain ⟨a,c,h,_⟩:=t.names.strs;exact ⟨a,_,c,h⟩
   obtain ⟨ai,L2,xf,yw⟩:∃a l c,vi=Value.slice a l c:=by obtain ⟨a,c,h,_⟩:=t.items.nodes;exact ⟨a,_,c,h⟩
   subst y1;subst yw;obtain ⟨l1,l2,l3,l4⟩:=t.lo;have fn:=aE t.nod;have cn:=aA t.nod;have fr:=aE t.res;have cr:=aA t.res;have zn:¬w.heap.size=nb:=by omega
   have zi:¬nb=w.heap.size:=by omega
   have xs:=Hh t;have M:=Hh S;have HA:=Hh hA;have HV:=Hh hval;have zb:=Hh xm;have HJ:=Hh xq;clear t S hA hval xm xq
   go_wp2
   have yh:=dG xs.o.res (Iz 5) (.bool false) (Iz 0) (.string ⟨#[]⟩) (.slice an L1 xh) (.slice ai L2 xf);have G:=aO wr w.heap.size (Iz 5) (.bool false) (Iz 0) (.string ⟨#[]⟩) (.slice an L1 xh) (.slice ai L2 xf);refine Au (v:=.agg #[Iz 5,.bool false,Iz 0,.string ⟨#[]⟩,.slice an L1 xh,.slice ai L2 xf]) ?_ ?_ ?_;rotate_left
   ·rfl
   ·refine ⟨⟨[Iz 5,.bool false,Iz 0,.string ⟨#[]⟩,.slice an L1 xh,.slice ai L2 xf],.mk 5 false 0 ⟨#[]⟩ ns (aG A),rfl,?_,?_,?_,?_,?_,fun s hs=>List.mem_of_mem_take (i:=j) (by rw [←M.o];exact hs)⟩,?_,?_⟩
    ·have yf:=xs.o.node
     rw [show n - 1+1=n by omega] at yf
     exact (yf.same fun b hb=>G.block b hb.2 (by intro e;have:=Ab e;omega)).mono fun b hb=>⟨by omega,Ll hb.2 G.size⟩
    ·have yn:(aG A).length=j:=by rw [aG,Bk];exact HA.o
     have za:ns.length=j:=by rw [M.o,Bc];show min j 4=j;omega
     refine ⟨rfl,rfl,rfl,rfl,za.trans yn.symm,by show (aG A).length≤256;omega,?_,?_,?_⟩
     ·intro s hs
      have xv:s ∈ lZ:=List.mem_of_mem_take (i:=j) (by rw [←M.o];exact hs)
      exact YE s xv
     ·show ns.Nodup
      rw [M.o];exact List.Sublist.nodup (List.take_sublist _ _) IC
     ·intro y R
      obtain ⟨z,hz,rfl⟩:=Bp.1 R;exact sQ (HV.o z hz)
    ·show (aG A).length≤3
     rw [aG,Bk,HA.o];omega
    ·intro y R
     obtain ⟨z,hz,rfl⟩:=Bp.1 R;exact HV.o z hz
    ·have yn:(aG A).length=j:=by rw [aG,Bk];exact HA.o
     have hc:oD (n - 1) (aG A)≤_:=FU (fun y R=>by
      obtain ⟨z,hz,rfl⟩:=Bp.1 R;exact HV.o z hz) (by omega)
     have S:(ns.map fun s=>6 * s.size+8).sum≤56:=by
      refine Af (uU (c:=14) fun s hs=>?_) ?_
      ·have xv:s ∈ lZ:=List.mem_of_mem_take (i:=j) (by rw [←M.o];exact hs)
       have:=RI s xv;omega
      ·rw [M.o,Bc]
       show 14 * min j 4≤56
       omega
     obtain ⟨m,hm⟩:∃m,n=m+1:=⟨n - 1,by omega⟩
     rw [hm,Nat.add_sub_cancel] at hc;rw [hm,fR,vV];unfold oD at hc
     show 24+6 * 0+(ns.map fun s=>6 * s.size+8).sum+((aG A).map fun y=>bK m y+1).sum≤_
     omega
    ·have:=xs.o.gro
     exact ⟨G.os.trans this.os,G.tape.trans this.tape,G.output.trans this.output,Af this.size G.size,fun i hi hn=>(G.block i (Ll hi this.size) (by intro e;have:=Ab e;omega)).trans (this.block i hi hn)⟩
    ·exact zb.o.same fun q hq=>G.block q (by omega) (by intro e;have:=Ab e;omega)
   ·obtain ⟨q0,q1,q2,q3,q4,q5⟩:=aA yh
    simp only [dJ] at q0 q1 q2 q3 q4 q5;simp [results,results7,go_sem,q0,q1,q2,q3,q4,q5]
end Go.Proofs.YtncdpanfefnjlaaGreatDoor
namespace Go.Proofs.YtncdpanfefnjlaaGreatDoor
open Go.Proofs.Tryz
def nmW:List Bt:=[⟨#[97]⟩,⟨#[98]⟩,⟨#[118]⟩,⟨#[100]⟩,⟨#[]⟩]
theorem rR:∀s,s ∈ nmW→s.size≤1∧Lib.validD s.data.toList=true:=by decide +kernel
def lB (i:Nat):Ub:=[UInt8.ofNat (48+i % 10),UInt8.ofNat (48+i / 10)]
def wA (i:Nat) (s:Bt):Prop:=∃u ∈ nmW,s=u++⟨(lB i).toArray⟩
theorem aGo:∀i,i<100→Lib.validD (lB i)=true:=by
 have:∀i:Fin 100,Lib.validD (lB i.1)=true:=by decide +kernel
 exact fun i a=>this ⟨i,a⟩
theorem aGp {i j:Nat} (f:i<100) (e:j<100) (h:lB i=lB j):i=j:=by
 simp only [lB,Bu,Dd] at h;obtain ⟨a,c⟩:=h;have b:=Ad UInt8.toNat a;have d:=Ad UInt8.toNat c;simp only [Bb] at b d;omega
theorem UO {i:Nat} {s:Bt} (c:i<100) (h:wA i s):aZ s=true∧s.size≤3:=by
 obtain ⟨u,a,rfl⟩:=h;obtain ⟨e,b⟩:=rR u a;have d:(u++(⟨(lB i).toArray⟩:Bt)).size≤3:=by
  rw [Cq]
  show u.size+2≤3
  omega
 refine ⟨?_,d⟩;unfold aZ;rw [DV b (aGo i c),Ap (show (u++(⟨(lB i).toArray⟩:Bt)).size≤65536 by omega)]
 rfl
theorem aHc {i j:Nat} {s:Bt} (b:i<100) (c:j<100) (h:wA i s) (k:wA j s):i=j:=by
 obtain ⟨u,f,rfl⟩:=h;obtain ⟨v,d,e⟩:=k;have a:=Ad (fun x:Bt=>x.data.toList) e
 simp only [ByteArray.toList_data_append] at a;exact aGp b c (List.append_inj_right' a rfl)
def kL (ns:List Bt):Prop:=∀i s,ns[i]?=some s→wA i s
theorem kL.push {ns:List Bt} {s:Bt} (h:kL ns) (d:wA ns.length s):kL (ns++[s]):=by
 intro i t a;rcases Cf i ns.length with b | b
 ·rw [Cs b] at a;exact h i t a
 ·rw [Dr b] at a
  have:i - ns.length=0:=by
   rcases Nat.eq_zero_or_pos (i - ns.length) with c | c
   ·exact c
   ·rw [Cb (by simp;omega)] at a;cases a
  rw [this] at a;obtain rfl:s=t:=by simpa using a
  obtain rfl:i=ns.length:=by omega
  exact d
theorem kL.nodup {ns:List Bt} (h:kL ns) (d:ns.length≤100):ns.Nodup:=by
 rw [List.nodup_iff_pairwise_ne,List.pairwise_iff_getElem];intro i j b c a e;have:=aHc (by omega) (by omega) (h i _ (Ac b)) (h j _ (by rw [Ac c,e]))
 omega
theorem kL.texts {ns:List Bt} (h:kL ns) (c:ns.length≤100):∀s,s ∈ ns→aZ s=true:=by
 intro s b;obtain ⟨i,a,rfl⟩:=List.getElem_of_mem b;exact (UO (by omega) (h i _ (Ac a))).1
theorem JB {n:Nat} {k:Int} {ns:List Bt} {its:List ND} (f:1≤n) (e:k=4∧ns=[]∨k=5∧ns.length=its.length∧kL ns) (g:its.length≤50) (a:∀y,y ∈ its→aC (n - 1) y=true):aC n (.mk k false 0 ⟨#[]⟩ ns its)=true:=by
 obtain ⟨m,rfl⟩:∃m,n=m+1:=⟨n - 1,by omega⟩
 rw [Nat.add_sub_cancel] at a;have d:aZ ⟨#[]⟩=true:=by decide
 rcases e with ⟨rfl,rfl⟩ | ⟨rfl,c,b⟩
 ·rw [cV,An,Ax]
  refine ⟨?_,a⟩;unfold fC;simp [ND.kind,ND.bool,ND.num,ND.text,ND.items,ND.names,d];exact Ap (by omega)
 ·rw [cK rfl]
  exact ⟨rfl,rfl,rfl,rfl,c,by show its.length≤256;omega,b.texts (by omega),b.nodup (by omega),a⟩
theorem kB {n:Nat} (a:1≤n) (k:Int) (b:Bool) (z:Int) (t:Bt) (h:fC (.mk k b z t [] [])=true) (c:dD z=true) (e:t.size≤300):gF n (.mk k b z t [] [])=true:=by
 obtain ⟨m,rfl⟩:∃m,n=m+1:=⟨n - 1,by omega⟩
 refine DX (uR ?_ c (fun y d=>by cases d)) ?_
 ·rw [cV,h]
  rfl
 ·have:=aFb a
  rw [fR]
  show 24+6 * t.size+0+0≤_
  omega
theorem xL {n:Nat} {k:Int} {ns:List Bt} {its:List ND} (f:1≤n) (d:k=4∧ns=[]∨k=5∧ns.length=its.length∧kL ns) (q:its.length≤20) (b:∀y,y ∈ its→gF (n - 1) y=true) (e:oD (n - 1) its≤3 * (qQ (n - 1)+1)+25 * its.length):gF n (.mk k false 0 ⟨#[]⟩ ns its)=true:=by
 have h:=JB f d (by omega) (fun y a=>sQ (b y a))
 obtain ⟨m,rfl⟩:∃m,n=m+1:=⟨n - 1,by omega⟩
 refine DX (uR h (show dD 0=true by decide) fun y a=>zB (b y a)) ?_
 rw [Nat.add_sub_cancel] at e;have j:(ns.map fun s=>6 * s.size+8).sum≤520:=by
  rcases d with ⟨-,rfl⟩ | ⟨-,p,g⟩
  ·exact Av _
  ·refine Af (uU (c:=26) fun s o=>?_) (by omega)
   obtain ⟨i,l,rfl⟩:=List.getElem_of_mem o;have:=(UO (by omega) (g i _ (Ac l))).2
   omega
 unfold oD at e;rw [fR,vV]
 show 24+6 * 0+(ns.map fun s=>6 * s.size+8).sum+(its.map fun y=>bK m y+1).sum≤_
 omega
theorem KO {z:Int} (b:-9223372036854775808≤z) (a:z≤9223372036854775807):dD z=true:=by
 unfold dD;rw [Ap b,Ap a];rfl
end Go.Proofs.YtncdpanfefnjlaaGreatDoor