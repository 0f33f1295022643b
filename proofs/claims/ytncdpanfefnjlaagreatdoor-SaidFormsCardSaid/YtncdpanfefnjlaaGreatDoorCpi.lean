import Derived.Test.YtncdpanfefnjlaaGreatDoorCpu
import Derived.Test.YtncdpanfefnjlaaGreatDoorMdc
set_option linter.unusedVariables false
set_option linter.unusedSimpArgs false
set_option maxHeartbeats 6400000
set_option maxRecDepth 100000
namespace Go.Proofs.YtncdpanfefnjlaaGreatDoor
open Go.Proofs.Tryz
open Go Go.Maps Go.ChangeShapes Go.WideShapes Go.ChangeAt Go.RowKit
def aIt (r:Ub) (a:Bool) (s:Bt) (b:Ub):Prop:=∀ (x:Bt) t,x.size<18446744073709551616→r=fT x++t→a=true∧s=x∧b=t
theorem qJ (x:Bt) (t:Ub):fT x++t=cR 3 x.size++(x.data.toList++t):=by unfold fT;rw [Aj]
theorem nF {x:Bt} {q t:Ub} (h:q=x.data.toList++t):x.size≤q.length∧bC (q.take x.size)=x∧q.drop x.size=t:=by
 have a:x.data.toList.length=x.size:=by rw [Ah];rfl
 refine ⟨by rw [h,Lg];omega,?_,?_⟩
 ·rw [h,List.take_left' a];exact pS x
 ·rw [h,List.drop_left' a]
def aKp (g c:Nat) (r:Ub) (w:World) (e:Ending) (w':World):Prop:=∃ (s:Bt) (b:Bool) (a:Ub),e=.returned (.tuple #[.string s,.bool b])∧PrC w' g c a∧w.grownBy w' (some g)∧s.size≤r.length∧a.length≤r.length∧(b=true→a.length<r.length)∧aIt r b s a
theorem ZU {g F:Nat} {r:Ub} (w:World) (h:PrC w g F r) (hr:r.length≤1000000):Calls prog 197 #[.pointer (some ⟨g,0,none⟩)] w (aKp g F r w):=by
 have xa:=h.lt;have HD:=Hh (IY w h hr);clear h
 go_enter func197,ntmps197
 go_upto_region 2 with ((with_reducible refine (HD.o).mono ?_);rintro e y ⟨m,n,ok,c,rfl,C,P,hm,hn,I,s,hI⟩)
 have bA:=(Br y.heap.size y).alloc (o:=.cells #[Iz (m:Int),.int .u64 (n:Int)] 214) (Lr _);have A:=C.below bA;have J:=Hn y (.cells #[Iz (m:Int),.int .u64 (n:Int)] 214);have v:=aJ P (dV y (.cells #[Iz (m:Int),.int .u64 (n:Int)] 214) (some g));have X:g<y.heap.size:=C.lt;generalize W:y.alloc (.cells #[Iz (m:Int),.int .u64 (n:Int)] 214)=p at A J v ⊢;clear W bA C P HD;have q:=Hh (Ai A v);have K2:=Hh J;have R:=Hh hI;have HL:=Hh (Ai I s);obtain ⟨b,hb⟩:∃b,b=y.heap.size:=⟨_,rfl⟩;rw [←hb] at K2 J X ⊢;have c2:=eJ J;clear hb A v J hI I s;cases ok with
 | false=>
  go_wp2
  go_ret2
  exact ⟨_,_,_,rfl,q.o.1,q.o.2,Av _,HL.o.1,(fun h=>by cases h),fun x t l i=>by
   rw [qJ] at i;have:=(R.o 3 x.size _ (by decide) l i).1
   cases this⟩
 | true=>
  by_cases G:m=3
  ·have V:((m:Int) == 3)=true:=by subst G;rfl
   have O:((m:Int) != 3)=false:=by subst G;rfl
   by_cases T:n≤c.length
   ·have S:=Hh (fun (N:World) (l:PrC N g F c)=>vS n N l (by have:=HL.o.1;omega) T)
    have L:(bC (c.take n)).size≤r.length:=by rw [bY,Bc];have:=HL.o.1;omega
    have Q:Hid (aIt r true (bC (c.take n)) (c.drop n)):=Hh fun x t l i=>by
     rw [qJ] at i;obtain ⟨-,-,Z,Y⟩:=R.o 3 x.size _ (by decide) l i
     obtain ⟨-,e3,e4⟩:=nF Y;subst Z;exact ⟨rfl,e3,e4⟩
    have H:(c.drop n).length≤c.length:=by rw [Ce];omega
    have HS:=Hh L;have E:=Hh H;obtain ⟨sx,u⟩:∃sx,sx=bC (c.take n):=⟨_,rfl⟩;obtain ⟨rx,B⟩:∃rx,rx=c.drop n:=⟨_,rfl⟩;rw [←u,←B] at S Q;rw [←u] at HS;rw [←B] at E;clear L H u B T G
    go_upto_region 4 with fail
    refine aI (fun w'=>w'.cell? ⟨b,1,none⟩=some (.int .u64 (n:Int))) [4] (.take 0 (.take 1 (.take 2 (.take 3 (.take 4 (.ask 5 false (.take 6 (.take 7 (.take 8 (.ask 9 false .stop .stop)))) .stop)))))) (by kernel_rfl) (by kernel_rfl) (fun _ d _ _ _ h=>by cases d <;> exact h) c2.2 ?_
    have k:PrC p.drew g F c:=q.o.1.below (Br _ _).drew;have j:=Hh k;have f:Hid (w.grownBy p.drew (some g)):=Hh (aJ q.o.2 (aK ((Br p.heap.size p).drew) (Lr _) _));clear k c2;generalize p.drew=wd at j f ⊢
    iterate 4 (refine aF _ ?_ rfl rfl ?_ (fun K a=>?_);rotate_left;(intro M;go_simp;(try rfl));(go_simp;refine a _ ?_;clear a K))
    refine aM _ ?_ rfl rfl (by decide) ?_ (fun K a=>?_);rotate_left;(intro M U;go_simp;(try rfl));(go_simp;refine a _ ?_;clear a K)
    refine aB _ rfl trivial ?_;go_wp2_with (go_at_call 172;(with_reducible refine (S.o _ j.o).mono ?_);rintro e w3 ⟨rfl,D,z⟩);refine Seg.mk ?_
    iterate 3 (refine aF _ ?_ rfl rfl ?_ (fun K a=>?_);rotate_left;(intro M;go_simp;(try rfl));(go_simp;refine a _ ?_;clear a K))
    refine bQ _ rfl trivial ?_
    go_wp2
    go_ret2
    exact ⟨_,_,_,rfl,D,aJ f.o z,HS.o,by have:=HL.o.1;have:=E.o;omega,(fun h=>by have:=HL.o.2 (by first | rfl | trivial);have:=E.o;omega),Q.o⟩
   ·have S:=Hh (fun (N:World) (l:PrC N g F c)=>BU n N l (by have:=HL.o.1;omega) T)
    have Q:Hid (aIt r false ⟨#[]⟩ c):=Hh fun x t l i=>by
     exfalso
     rw [qJ] at i;obtain ⟨-,-,Z,Y⟩:=R.o 3 x.size _ (by decide) l i
     obtain ⟨e0,-,-⟩:=nF Y;omega
    clear T G
    go_upto_region 4 with fail
    refine aI (fun w'=>w'.cell? ⟨b,1,none⟩=some (.int .u64 (n:Int))) [4] (.take 0 (.take 1 (.take 2 (.take 3 (.take 4 (.ask 5 false (.take 6 (.take 7 (.take 8 (.ask 9 false .stop .stop)))) .stop)))))) (by kernel_rfl) (by kernel_rfl) (fun _ d _ _ _ h=>by cases d <;> exact h) c2.2 ?_
    have k:PrC p.drew g F c:=q.o.1.below (Br _ _).drew;have j:=Hh k;have f:Hid (w.grownBy p.drew (some g)):=Hh (aJ q.o.2 (aK ((Br p.heap.size p).drew) (Lr _) _));clear k c2;generalize p.drew=wd at j f ⊢
    iterate 4 (refine aF _ ?_ rfl rfl ?_ (fun K a=>?_);rotate_left;(intro M;go_simp;(try rfl));(go_simp;refine a _ ?_;clear a K))
    refine aM _ ?_ rfl rfl (by decide) ?_ (fun K a=>?_);rotate_left;(intro M U;go_simp;(try rfl));(go_simp;refine a _ ?_;clear a K)
    refine aB _ rfl trivial ?_;go_wp2_with (go_at_call 172;(with_reducible refine (S.o _ j.o).mono ?_);rintro e w3 ⟨rfl,D,z⟩);refine Seg.mk ?_
    iterate 3 (refine aF _ ?_ rfl rfl ?_ (fun K a=>?_);rotate_left;(intro M;go_simp;(try rfl));(go_simp;refine a _ ?_;clear a K))
    refine bQ _ rfl trivial ?_
    go_wp2
    go_ret2
    exact ⟨_,_,_,rfl,D,aJ f.o z,Av _,HL.o.1,(fun h=>by cases h),Q.o⟩
  ·have V:((m:Int) == 3)=false:=by simp;omega
   have O:((m:Int) != 3)=true:=by simp;omega
   have H3:=Hh G;clear G
   go_wp2
   go_ret2
   exact ⟨_,_,_,rfl,q.o.1,q.o.2,Av _,HL.o.1,(fun h=>by cases h),fun x t l i=>by
    rw [qJ] at i;exact absurd (R.o 3 x.size _ (by decide) l i).2.1 H3.o⟩
end Go.Proofs.YtncdpanfefnjlaaGreatDoor
namespace Go.Proofs.YtncdpanfefnjlaaGreatDoor
open Go.Proofs.Tryz
def CIr (d:Nat) (r:Ub) (y:ND) (t:Ub):Prop:=aC d y=true∧aP d y=true∧r=aU d y++t
theorem zV {d:Nat} {r b:Ub} {c:Bool} {m n:Nat} (a:uK r c m n b) {y:ND} {t:Ub} (h:CIr (d+1) r y t):c=true∧m=fZ y∧n=gL y∧b=nD d y++t:=by
 obtain ⟨f,g,e⟩:=h;rw [dU,Aj] at e;exact a _ _ _ (yK y) (yL f g) e
def LIr (d:Nat) (k:Int) (n:Nat) (r:Ub) (ns:List Bt) (X:List ND) (b:Ub):Prop:=∀y t,CIr (d+1) r y t→y=.mk k false 0 ⟨#[]⟩ y.names y.items∧y.items.length=n∧∃its a,y.items=X++its∧y.names=ns++a∧(k=5→a.length=its.length)∧(k ≠ 5→a=[])∧(∀z,z ∈ its→aC d z=true∧aP d z=true)∧(∀z,z ∈ a→z.size≤65536)∧b=rA d k a its++t
def VIr (d:Nat) (k:Int) (n:Nat) (r:Ub) (ns:List Bt) (X:List ND) (b:Ub):Prop:=∀y t,CIr (d+1) r y t→y=.mk k false 0 ⟨#[]⟩ y.names y.items∧y.items.length=n∧∃i its a,y.items=X++i::its∧y.names=ns++a∧(k=5→a.length=its.length)∧(k ≠ 5→a=[])∧(∀z,z ∈ i::its→aC d z=true∧aP d z=true)∧(∀z,z ∈ a→z.size≤65536)∧b=aU d i++(rA d k a its++t)
theorem LIr.start {d:Nat} {r l:Ub} {q:Bool} {m n:Nat} (f:uK r q m n l) (v:m=4∨m=5):LIr d (m:Int) n r [] [] l:=by
 intro y t h;obtain ⟨-,u,w,o⟩:=zV f h;obtain ⟨p,-,-,g⟩:=aX h.1;obtain ⟨-,e⟩:=cG h.2.1;rcases kF h.1 h.2.1 with ⟨c1,-⟩ | ⟨c1,-⟩ | ⟨c1,-⟩ | ⟨c1,-⟩ | ⟨c1,c2,c3,b⟩ | ⟨c1,c2,c3,b,s⟩
 ·omega
 ·omega
 ·omega
 ·omega
 ·have j:m=4:=by omega
  subst j;have c:y.names=[]:=by rw [b];rfl
  refine ⟨by rw [c];exact b,by omega,y.items,[],rfl,c,fun h=>by omega,fun _=>rfl,fun z a=>⟨p z a,e z a⟩,fun z a=>by simp at a,?_⟩
  rw [o];have k:y.kind=4:=by rw [b];rfl
  unfold nD rA;rw [k];rfl
 ·have i:m=5:=by omega
  subst i;refine ⟨b,by omega,y.items,y.names,rfl,rfl,fun _=>s,fun h=>absurd rfl h,fun z a=>⟨p z a,e z a⟩,fun z a=>dY (g z a),?_⟩
  rw [o];have k:y.kind=5:=by rw [b];rfl
  unfold nD rA;rw [k];rfl
theorem LIr.more {d:Nat} {k:Int} {n:Nat} {r f:Ub} {ns:List Bt} {X:List ND} (h:LIr d k n r ns X f) (b:k ≠ 5) (u:X.length<n):VIr d k n r ns X f:=by
 intro y t q;obtain ⟨j,e,its,a,c,o,s,m,p,g,l⟩:=h y t q;cases its with
 | nil=>rw [c,By] at e;omega
 | cons i its=>
  refine ⟨j,e,i,its,a,c,o,fun h=>absurd h b,m,p,g,?_⟩
  rw [l];unfold rA;rw [Ae b,Ae b,Cl,Aj]
theorem LIr.text {d:Nat} {k:Int} {n:Nat} {r s f:Ub} {g:Bool} {ns:List Bt} {X:List ND} (h:LIr d k n r ns X s) (e:k=5) (H:X.length<n) {o:Bt} (C:aIt s g o f):(g=false→∀y t,¬CIr (d+1) r y t)∧VIr d k n r (ns++[o]) X f:=by
 have b:∀y t,CIr (d+1) r y t→g=true∧(y=.mk k false 0 ⟨#[]⟩ y.names y.items∧y.items.length=n∧∃i its a,y.items=X++i::its∧y.names=ns++[o]++a∧(k=5→a.length=its.length)∧(k ≠ 5→a=[])∧(∀z,z ∈ i::its→aC d z=true∧aP d z=true)∧(∀z,z ∈ a→z.size≤65536)∧f=aU d i++(rA d k a its++t)):=by
  intro y t c;obtain ⟨v,l,its,a,q,x,u,G,A,p,j⟩:=h y t c;cases its with
  | nil=>rw [q,By] at l;omega
  | cons i its=>
   cases a with
   | nil=>have:=u e;simp at this
   | cons m a=>
    unfold rA at j;rw [Am e,Bh,Bv,Aj,Aj] at j;obtain ⟨w,E,B⟩:=C m _ (Nat.lt_of_le_of_lt (p m (by simp)) (by decide)) j
    subst E;refine ⟨w,v,l,i,its,a,q,by rw [x];simp,fun h=>by have:=u h;simpa using this,fun h=>absurd e h,A,fun z D=>p z (by simp [D]),?_⟩
    rw [B];unfold rA;rw [Am e]
 exact ⟨(fun F y t c=>by have:=(b y t c).1;rw [F] at this;cases this),fun y t c=>(b y t c).2⟩
theorem VIr.item {d:Nat} {k:Int} {n:Nat} {r j e:Ub} {f:Bool} {ns:List Bt} {X:List ND} (h:VIr d k n r ns X j) {x:ND} (A:∀z t,CIr d j z t→f=true∧x=z∧e=t):(f=false→∀y t,¬CIr (d+1) r y t)∧LIr d k n r ns (X++[x]) e:=by
 have b:∀y t,CIr (d+1) r y t→f=true∧(y=.mk k false 0 ⟨#[]⟩ y.names y.items∧y.items.length=n∧∃its a,y.items=X++[x]++its∧y.names=ns++a∧(k=5→a.length=its.length)∧(k ≠ 5→a=[])∧(∀z,z ∈ its→aC d z=true∧aP d z=true)∧(∀z,z ∈ a→z.size≤65536)∧e=rA d k a its++t):=by
  intro y t c;obtain ⟨m,p,i,its,a,w,q,B,v,g,u,D⟩:=h y t c;have l:=g i (by simp)
  obtain ⟨o,E,s⟩:=A i _ ⟨l.1,l.2,D⟩;subst E;exact ⟨o,m,p,its,a,by rw [w];simp,q,B,v,fun z C=>g z (by simp [C]),u,s⟩
 exact ⟨(fun F y t c=>by have:=(b y t c).1;rw [F] at this;cases this),fun y t c=>(b y t c).2⟩
theorem LIr.done {d:Nat} {k:Int} {n:Nat} {r f:Ub} {ns:List Bt} {X:List ND} (h:LIr d k n r ns X f) (u:X.length=n):∀y t,CIr (d+1) r y t→(.mk k false 0 ⟨#[]⟩ ns X)=y∧f=t:=by
 intro y t q;obtain ⟨j,p,its,a,b,c,i,m,v,s,l⟩:=h y t q;have g:its=[]:=by
  rw [b,Lg] at p;exact Aw.1 (by omega)
 subst g;have o:a=[]:=by
  by_cases e:k=5
  ·exact Aw.1 (i e)
  ·exact m e
 subst o;rw [By] at b c;refine ⟨by rw [j,b,c],?_⟩
 rw [l];unfold rA
 split <;> rfl
end Go.Proofs.YtncdpanfefnjlaaGreatDoor
namespace Go.Proofs.YtncdpanfefnjlaaGreatDoor
open Go.Proofs.Tryz
open Go Go.Maps Go.ChangeShapes Go.WideShapes Go.ChangeAt Go.RowKit
theorem PrC.row {w w':World} {g m:Nat} {r:Ub} {row:Option Nat} (h:PrC w g m r) (c:w.grownBy w' row) (j:∀b,row=some b→g<b):PrC w' g m r:=by
 cases row with
 | some b=>exact h.kept c (j b rfl)
 | none=>
  obtain ⟨a,d,k⟩:=h;have f:∀i,i<w.heap.size→w'.heap[i]?=w.heap[i]?:=fun i l=>c.block i l (by intro e;cases e)
  exact ⟨(f g (Aa a)).trans a,d.same (f _ d.lt),k⟩
def aGa (V:ND→Ub→Prop) (d:Nat) (g h:Nat) (r:Ub) (w:World) (e:Ending) (w':World):Prop:=∃ (f:Vl) (x:ND) (c:Bool) (a:Ub),e=.returned (.tuple #[.agg f.toArray,.bool c])∧aD (d+1) (fun b=>w.heap.size≤b∧b<w'.heap.size) w' f x∧PrC w' g h a∧w.grownBy w' (some g)∧a.length≤r.length∧(c=true→a.length<r.length+1)∧(iM (d+1) x∧aP (d+1) x=true)∧∀y t,V y t→c=true∧x=y∧a=t
theorem sB {V:ND→Ub→Prop} {d g l:Nat} {r c:Ub} {w f:World} (k:Int) (b:Bool) (z:Int) (t:Bt) (e:Bool) (u:PrC f g l c) (n:w.grownBy f (some g)) (i:g<w.heap.size) (o:c.length≤r.length) (h:e=true→c.length<r.length+1) (s:t.size≤maxLen - 2) (m:dD z=true)
 (p:∀y j,V y j→e=true∧(.mk k b z t [] [])=y∧c=j) :
 aGa V d g l r w (.returned (.tuple #[.agg #[Iz k,.bool b,Iz z,.string t,Sn,Sn],.bool e])) (dJ f w.heap.size (Iz k) (.bool b) (Iz z) (.string t) (Sn) (Sn)):=by
 have a:=aO f w.heap.size (Iz k) (.bool b) (Iz z) (.string t) (Sn) (Sn);exact ⟨[Iz k,.bool b,Iz z,.string t,Sn,Sn],_,e,c,rfl,(cJ _ _ k b z t s).deeper (by omega),u.kept a i,gO n a (Lr _),o,h,⟨⟨by simp [ND.items],fun y q=>by simp [ND.items] at q⟩,by unfold aP;show (dD z && _)=true;rw [m];rfl⟩,p⟩
def JU (V:ND→Ub→Prop) (d:Nat) (g h:Nat) (r:Ub) (w:World) (e:Ending) (w':World):Prop:=∃ (f:Vl) (x:ND) (c:Bool) (a:Ub),e=.returned (.tuple #[.agg f.toArray,.bool c])∧aD (d+1) (fun b=>w.heap.size≤b∧b<w'.heap.size) w' f x∧PrC w' g h a∧w.grownBy w' (some g)∧a.length≤r.length∧(c=true→a.length<r.length)∧(iM (d+1) x∧aP (d+1) x=true)∧∀y t,V y t→c=true∧x=y∧a=t
def pZ (d:Nat):Prop:=∀ (g a:Nat) (r:Ub) (w:World),PrC w g a r→r.length≤100000→Calls prog 148 #[.pointer (some ⟨g,0,none⟩),Iz (d:Int)] w (JU (CIr d r) d g a r w)
structure ISc (d:Nat) (k:Int) (g nb C mb:Nat) (r1:Ub) (w wx:World) (vn vi:Value) (ns:List Bt) (A:List NC) (rr:Ub):Prop where
 par:PrC wx g mb rr
 st:NSt 28 9 (d+1) w wx g nb C k vn vi ns A
 fine:∀y,y ∈ A→iM (d+1) y.2∧aP (d+1) y.2=true
 len:A.length+rr.length≤r1.length
theorem OA (d:Nat) (hd:d≤20) (PN:pZ d) (k:Int) (hk:k=4∨k=5) (n:Nat) (hn:n<18446744073709551616) {g mb:Nat} {r r1:Ub} (w:World) (h:PrC w g mb r1) (hr:r1.length≤100000) (y2:LIr d k n r [] [] r1):Calls prog 173 #[.pointer (some ⟨g,0,none⟩),Iz k,.int .u64 (n:Int),Iz ((d:Int)+1)] w (aGa (CIr (d+1) r) (d+1) g mb r1 w):=by
 have xn:=h.lt;obtain ⟨z1,U⟩:∃o,o=Obj.cells Z6 28 (0,0):=⟨_,rfl⟩;obtain ⟨z2,xb⟩:∃o,o=Obj.cells #[Iz k,.bool false,Iz 0,.string ⟨#[]⟩,Sn,Sn] 28 (0,0):=⟨_,rfl⟩;have yo:=Hn w z1;have hz:(w.alloc z1).heap.size=w.heap.size+1:=by simp
 have zg:=(Bj (w.alloc z1) z2 _ (Aa yo)).trans yo;have yr:=Hn (w.alloc z1) z2;have bb:=((Br w.heap.size w).alloc (o:=z1) (Lr _)).alloc (o:=z2) (by rw [hz];omega)
 have yp:=h.below bb;have zh:=aJ (dV w z1 (some g)) (dV (w.alloc z1) z2 (some g));obtain ⟨nb,xa⟩:∃nb,nb=(w.alloc z1).heap.size:=⟨_,rfl⟩;rw [←xa] at yr;obtain ⟨W2,xx⟩:∃W,W=(w.alloc z1).alloc z2:=⟨_,rfl⟩;have xs:NSt 28 9 (d+1) w W2 g nb W2.heap.size k (Sn) (Sn) [] []:=by
  rw [xx];exact NSt.begin (by rw [zg,U]) (by rw [yr,xb]) xn (by omega) zh
 rw [←xx] at yp;obtain ⟨C,hC⟩:∃C,C=W2.heap.size:=⟨_,rfl⟩;rw [←hC] at xs;have xj:=Hh xs;have yz:=Hh yp;have zd:=Hh PN;have xo:=Hh y2;rw [U,xb] at xx;rw [U] at xa;have y9:(w.alloc (.cells Z6 28)).heap.size=w.heap.size+1:=by simp
 rw [y9] at xa;clear xs yp yo zg yr bb zh hC PN h hz U xb y9 y2
 go_enter func173,ntmps173
 go_upto_region 2 with fail
 rw [←xx];rw [←xa];have z5:=Hh xa;clear xx xa z1 z2;obtain ⟨ip,y0,zi,U,xb⟩:=rE;obtain ⟨iq,yt,zm,z0,zp⟩:=rD;have ze:=Hh y0;have zy:=Hh yt;clear y0 yt;have zb:=underlying26;have zr:=underlying25
 go_upto_region 3 with fail
 go_loopw [18] (fun i wr=>∃ (vn vi:Value) (ns:List Bt) (A:List NC) (rr:Ub),i=.int .u64 (A.length:Int)∧ISc d k g nb C mb r1 w wr vn vi ns A rr∧LIr d k n r ns (aG A) rr∧ns.length≤A.length) (fun i _=>n - (intOf i).toNat)
 case atStart=>exact ⟨_,_,[],[],r1,rfl,⟨yz.o,xj.o,(fun y E=>by simp at E),by simp⟩,xo.o,Lr _⟩
 case round=>
  clear xj yz xo;obtain ⟨vn,vi,ns,A,rr,rfl,hI,xz,x9⟩:=hrel;have xf:=hI.len;have HI:=Hh hI;have xo:=Hh xz;have X:(aG A).length=A.length:=by simp [aG]
  have za:=Hh X
  by_cases Y:A.length<n
  ·have yd:(A.length:Int)<(n:Int):=by omega
   have z9:IntKind.u64.wrap ((A.length:Int)+1)=(A.length:Int)+1:=by rw [Bi];omega
   obtain ⟨ai,ci,zk⟩:=hI.st.viForm;subst zk;have ua:(0:Int)≤(d:Int):=by omega
   have z7:(d:Int)≤20:=by omega
   clear hI xz X
   by_cases xc:k=5
   ·have yc:(k == 5)=true:=by simpa using xc
    have NM:=Hh (ZU wr HI.o.par (by omega))
    have zw:=Hh xc;clear xc
    go_upto_region 6 with ((with_reducible refine (NM.o).mono ?_);rintro e2 w3 ⟨sl,ok,ry,rfl,y4,y7,zn,zo,ya,yx⟩)
    have ym:=Hh (xo.o.text zw.o (by rw [za.o];exact Y) yx)
    have T:=Hh (HI.o.st.grown y7);have yn:=Hh y4;have z4:=Hh ya;clear yx y4 y7 NM ya;cases ok with
    | false=>
     have xy:Hid (∀y t,¬CIr (d+1) r y t):=Hh (ym.o.1 rfl);have f1:=aE T.o.res;have c1:=aA T.o.res
     go_wp2
     refine aT (v:=.bool false) T.o.res results173 rfl rfl rfl ?_;exact sB 0 false 0 ⟨#[]⟩ false yn.o T.o.gro xn (by omega) (fun h=>by cases h) (by decide) (by decide) (fun y t hV=>absurd hV (xy.o y t))
    | true=>
     have c4:=(aA T.o.nod).2.2.2.2.1;have b4:=(Br w3.heap.size w3).alloc (o:=.cells #[.string sl] 9) (Lr _);have V:=T.o.below b4;have yv:=yn.o.below b4;have y8:=Hn w3 (.cells #[.string sl] 9);have yw:Hid (∀q u,([.string sl]:Vl)[q]?=some u→(w3.alloc (.cells #[.string sl] 9)).cell? ((⟨w3.heap.size,0,none⟩:Addr).add q)=some u):=Hh fun q u hq=>by
      have:=cT _ y8 rfl q u hq;rw [Bs,Ca];exact this
     have zc:=Hh V.names.1;have yu:=V.lo.2.2.2;have s:=Hh V;have y3:=Hh yv;have x8:sl.size≤maxLen - 2:=by unfold maxLen;omega
     clear V yv y8 b4
     go_upto_region 9 with ((refine Ay _ rfl (.tmp 31) (.tmp 33) 25 rfl C 9 iq (.string ⟨#[]⟩) 1 16 zr zy.o zm z0 zp rfl (by decide) vn ns.length _ rfl zc.o ⟨w3.heap.size,0,none⟩ 1 1 [.string sl] rfl rfl yw.o (by intro u hu;simp at hu;subst hu;rfl) (by decide) (by unfold maxLen;omega) (by omega) yu _ rfl ?_);intro gn cn Wn p a N Y;(have B:=(s.o.apart (.inl rfl) a nb s.o.lo.2.2.1).trans s.o.nod);(have yq:=aE B);(have yg:=aA B);(have l:=Hh (Ai p (Ai a N)));clear p a N B)
     have xl:=s.o.name l.o.1 l.o.2.1 (fV l.o.2.2) x8;have ys:=(y3.o.row l.o.2.1 (fun b hb=>by have:=(s.o.names.1.lt b hb).1;have:=s.o.lo;omega)).kept (aV Wn nb 4 (.slice (some ⟨gn,0,none⟩) (ns.length+1) cn)) (by have:=s.o.lo;omega)
     generalize Wn.setCell ⟨nb,4,none⟩ (.slice (some ⟨gn,0,none⟩) (ns.length+1) cn)=wy at xl ys ⊢;have K:=Hh xl;have x6:=Hh ys;have VI:=Hh ym.o.2;have y6:(ns++[sl]).length≤A.length+1:=by rw [Lg];show ns.length+1≤_;omega
     have y5:A.length+ry.length≤r1.length:=by omega
     clear xl ys ym s y3 l zc yw T yn c4 yq yg zo zn yc x8;generalize ns++[sl]=z8 at K VI y6;have NC:=Hh (zd.o g mb ry wy x6.o (by omega))
     have zj:=K.o.viForm
     go_upto_region 10 with ((with_reducible refine (NC.o).mono ?_);rintro e3 Z ⟨cs,x,ok,r',rfl,j,xw,xu,M,Q,xq,xp⟩;go_loud ((obtain ⟨G,H,c1,F,I,c2,yk⟩:=j.slices);subst yk))
     have bS:=(Br Z.heap.size Z).alloc (o:=.cells (Na x G H c1 F I c2) 28) (Lr _);have D:=(K.o.grown xu).below bS;have S:=xw.below bS;have xi:=Hn Z (.cells (Na x G H c1 F I c2) 28);have xt:=fun (w7:World) (hb:Below Z.heap.size Z w7)=>K.o.fresh j hb
     have P:=j.one;obtain ⟨W6,L⟩:∃W,W=Z.alloc (.cells (Na x G H c1 F I c2) 28):=⟨_,rfl⟩;rw [←L] at bS D S xi;have f:=Hh D;have x5:=Hh S;have ye:=Hh xt;have xm:=Hh bS;have xh:=Hh P;have R:=Hh (Ai xq (VI.o.item xp));have zl:=Hh L;have xv:=Hh (Ai M Q);clear D S xt bS P xq xp j xw xu NC VI M Q
     try rw [←L]
     clear L;cases ok with
     | false=>
      have xy:Hid (∀y t,¬CIr (d+1) r y t):=Hh (R.o.2.1 rfl);have M:=xv.o.1;have f1:=aE f.o.res;have c1:=aA f.o.res
      go_wp2
      refine aT (v:=.bool false) f.o.res results173 rfl rfl rfl ?_;exact sB 0 false 0 ⟨#[]⟩ false x5.o f.o.gro xn (by omega) (fun h=>by cases h) (by decide) (by decide) (fun y t hV=>absurd hV (xy.o y t))
     | true=>
      have M:=xv.o.2 rfl;have c5:=aA f.o.nod;have cx:=aA xi;have b7:=(Br W6.heap.size W6).alloc (o:=.cells (Na x G H c1 F I c2) 28) (Lr _);have m:=f.o.below b7;have xk:=x5.o.below b7;have O:=ye.o _ (xm.o.trans (b7.mono xm.o.size));have xe:=Hn W6 (.cells (Na x G H c1 F I c2) 28);have yh:Hid (∀q u,((Nc x G H c1 F I c2):Vl)[q]?=some u→(W6.alloc (.cells (Na x G H c1 F I c2) 28)).cell? ((⟨W6.heap.size,0,none⟩:Addr).add q)=some u):=Hh fun q u hq=>by
       have:=cT _ xe rfl q u hq;rw [Bs,Ca];exact this
      have yi:=Hh m.items.1;have xg:=m.lo.2.2.2;have c:=Hh m;have yf:=Hh xk;have xr:=Hh O;clear m xk O xe b7
      go_wp2_with ((refine Ay _ rfl (.tmp 47) (.tmp 49) 26 rfl C 28 ip (.agg Z6) 6 88 zb ze.o zi U xb rfl (by decide) (.slice ai A.length ci) A.length _ rfl yi.o ⟨W6.heap.size,0,none⟩ 1 1 (Nc x G H c1 F I c2) rfl rfl yh.o xh.o (by decide) (by unfold maxLen;omega) (by omega) xg _ rfl ?_);intro g8 c8 W8 p a N Y;(have B:=(c.o.apart (.inr rfl) a nb c.o.lo.2.2.1).trans c.o.nod);(have yq:=aE B);(have yg:=aA B);(have l:=Hh (Ai p (Ai a N)));clear p a N B)
      have xd:=c.o.item l.o.1 l.o.2.1 (fV l.o.2.2) xr.o;have yj:=(yf.o.row l.o.2.1 (fun b hb=>by have:=(c.o.items.1.lt b hb).1;have:=c.o.lo;omega)).kept (aV W8 nb 5 (.slice (some ⟨g8,0,none⟩) (A.length+1) c8)) (by have:=c.o.lo;omega)
      go_roundw
      case rel=>
       refine ⟨_,_,_,A++[((Nc x G H c1 F I c2),x)],r',?_,⟨yj,xd,?_,?_⟩,?_,?_⟩
       ·rw [Lg];rfl
       ·intro y E
        rcases Bg.1 E with E | E
        ·exact HI.o.fine y E
        ·cases At.1 E;exact R.o.1
       ·rw [Lg];show A.length+1+r'.length≤r1.length;omega
       ·rw [show aG (A++[((Nc x G H c1 F I c2),x)])=aG A++[x] by simp [aG]];exact R.o.2.2
       ·rw [Lg];show _≤A.length+1;omega
      case measure=>simp [intOf];omega
   ·have yc:(k == 5)=false:=by simpa using xc
    have K:=Hh HI.o.st;have x6:=Hh HI.o.par;have VI:=Hh (xo.o.more xc (by rw [za.o];exact Y))
    clear xc
    go_upto_region 9 with fail
    have y5:=xf;have y6:ns.length≤A.length+1:=by omega
    generalize zz:wr=wy at K x6 ⊢;generalize rr=ry at *;clear zz;have NC:=Hh (zd.o g mb ry wy x6.o (by omega))
    have zj:=K.o.viForm
    go_upto_region 10 with ((with_reducible refine (NC.o).mono ?_);rintro e3 Z ⟨cs,x,ok,r',rfl,j,xw,xu,M,Q,xq,xp⟩;go_loud ((obtain ⟨G,H,c1,F,I,c2,yk⟩:=j.slices);subst yk))
    have bS:=(Br Z.heap.size Z).alloc (o:=.cells (Na x G H c1 F I c2) 28) (Lr _);have D:=(K.o.grown xu).below bS;have S:=xw.below bS;have xi:=Hn Z (.cells (Na x G H c1 F I c2) 28);have xt:=fun (w7:World) (hb:Below Z.heap.size Z w7)=>K.o.fresh j hb
    have P:=j.one;obtain ⟨W6,L⟩:∃W,W=Z.alloc (.cells (Na x G H c1 F I c2) 28):=⟨_,rfl⟩;rw [←L] at bS D S xi;have f:=Hh D;have x5:=Hh S;have ye:=Hh xt;have xm:=Hh bS;have xh:=Hh P;have R:=Hh (Ai xq (VI.o.item xp));have zl:=Hh L;have xv:=Hh (Ai M Q);clear D S xt bS P xq xp j xw xu NC VI M Q
    try rw [←L]
    clear L;cases ok with
    | false=>
     have xy:Hid (∀y t,¬CIr (d+1) r y t):=Hh (R.o.2.1 rfl);have M:=xv.o.1;have f1:=aE f.o.res;have c1:=aA f.o.res
     go_wp2
     refine aT (v:=.bool false) f.o.res results173 rfl rfl rfl ?_;exact sB 0 false 0 ⟨#[]⟩ false x5.o f.o.gro xn (by omega) (fun h=>by cases h) (by decide) (by decide) (fun y t hV=>absurd hV (xy.o y t))
    | true=>
     have M:=xv.o.2 rfl;have c5:=aA f.o.nod;have cx:=aA xi;have b7:=(Br W6.heap.size W6).alloc (o:=.cells (Na x G H c1 F I c2) 28) (Lr _);have m:=f.o.below b7;have xk:=x5.o.below b7;have O:=ye.o _ (xm.o.trans (b7.mono xm.o.size));have xe:=Hn W6 (.cells (Na x G H c1 F I c2) 28);have yh:Hid (∀q u,((Nc x G H c1 F I c2):Vl)[q]?=some u→(W6.alloc (.cells (Na x G H c1 F I c2) 28)).cell? ((⟨W6.heap.size,0,none⟩:Addr).add q)=some u):=Hh fun q u hq=>by
      have:=cT _ xe rfl q u hq;rw [Bs,Ca];exact this
     have yi:=Hh m.items.1;have xg:=m.lo.2.2.2;have c:=Hh m;have yf:=Hh xk;have xr:=Hh O;clear m xk O xe b7
     go_wp2_with ((refine Ay _ rfl (.tmp 47) (.tmp 49) 26 rfl C 28 ip (.agg Z6) 6 88 zb ze.o zi U xb rfl (by decide) (.slice ai A.length ci) A.length _ rfl yi.o ⟨W6.heap.size,0,none⟩ 1 1 (Nc x G H c1 F I c2) rfl rfl yh.o xh.o (by decide) (by unfold maxLen;omega) (by omega) xg _ rfl ?_);intro g8 c8 W8 p a N Y;(have B:=(c.o.apart (.inr rfl) a nb c.o.lo.2.2.1).trans c.o.nod);(have yq:=aE B);(have yg:=aA B);(have l:=Hh (Ai p (Ai a N)));clear p a N B)
     have xd:=c.o.item l.o.1 l.o.2.1 (fV l.o.2.2) xr.o;have yj:=(yf.o.row l.o.2.1 (fun b hb=>by have:=(c.o.items.1.lt b hb).1;have:=c.o.lo;omega)).kept (aV W8 nb 5 (.slice (some ⟨g8,0,none⟩) (A.length+1) c8)) (by have:=c.o.lo;omega)
     go_roundw
     case rel=>
      refine ⟨_,_,_,A++[((Nc x G H c1 F I c2),x)],r',?_,⟨yj,xd,?_,?_⟩,?_,?_⟩
      ·rw [Lg];rfl
      ·intro y E
       rcases Bg.1 E with E | E
       ·exact HI.o.fine y E
       ·cases At.1 E;exact R.o.1
      ·rw [Lg];show A.length+1+r'.length≤r1.length;omega
      ·rw [show aG (A++[((Nc x G H c1 F I c2),x)])=aG A++[x] by simp [aG]];exact R.o.2.2
      ·rw [Lg];show _≤A.length+1;omega
     case measure=>simp [intOf];omega
  ·have yd:¬ (A.length:Int)<(n:Int):=by omega
   have J:=HI.o.st;have zu:Hid (∀y t,CIr (d+1) r y t→(.mk k false 0 ⟨#[]⟩ ns (aG A))=y∧rr=t):=Hh fun y t E=>by
    have uc:A.length≤n∨n<A.length:=by omega
    by_cases he:(aG A).length=n
    ·exact xz.done he y t E
    ·obtain ⟨-,h2,its,z6,h3,-⟩:=xz y t E
     exfalso
     rw [h3,Lg,X] at h2;omega
   obtain ⟨ai,ci,rfl⟩:=J.viForm;obtain ⟨an,x7,rfl⟩:=J.vnForm;have f0:=aE J.nod;have c0:=aA J.nod;have f1:=aE J.res;have c1:=aA J.res;have zv:¬w.heap.size=nb:=by have:=J.lo;omega
   have z3:¬nb=w.heap.size:=fun e=>zv e.symm
   have xj:=Hh J;have zt:=Hh HI.o.par;clear J hI xz X;generalize yy:ns.length=NL at c0 x9;have zx:=Hh yy;generalize y1:A.length=AL at c0 x9 xf Y yd ⊢;have zf:=Hh y1;clear yy y1
   go_wp2
   have yl:=xj.o.done;have yb:=dG xj.o.res (Iz k) (.bool false) (Iz 0) (.string ⟨#[]⟩) (.slice an ns.length x7) (.slice ai A.length ci);rw [zx.o,zf.o] at yl yb;refine Au (v:=.tuple #[.agg #[Iz k,.bool false,Iz 0,.string ⟨#[]⟩,.slice an NL x7,.slice ai AL ci],.bool true]) ?_ ?_ ?_;rotate_left
   ·rfl
   ·have zq:=aO wr w.heap.size (Iz k) (.bool false) (Iz 0) (.string ⟨#[]⟩) (.slice an NL x7) (.slice ai AL ci)
    have ub:(aG A).length=AL:=by rw [←zf.o];simp [aG]
    refine ⟨[Iz k,.bool false,Iz 0,.string ⟨#[]⟩,.slice an NL x7,.slice ai AL ci],.mk k false 0 ⟨#[]⟩ ns (aG A),true,rr,rfl,yl.1,zt.o.kept zq xn,yl.2.1,by omega,(fun _=>by omega),⟨⟨?_,?_⟩,?_⟩,?_⟩
    ·show (aG A).length≤1000000;omega
    ·intro y E
     obtain ⟨z,hz,rfl⟩:=Bp.1 (show y ∈ aG A from E)
     exact (HI.o.fine z hz).1
    ·rw [cS,An,Ax]
     refine ⟨show dD 0=true by decide,fun y E=>?_⟩
     obtain ⟨z,hz,rfl⟩:=Bp.1 (show y ∈ aG A from E)
     exact (HI.o.fine z hz).2
    ·intro y t E
     exact ⟨rfl,zu.o y t E⟩
   ·obtain ⟨q0,q1,q2,q3,q4,q5⟩:=aA yb
    simp only [dJ] at q0 q1 q2 q3 q4 q5;simp [results,results173,go_sem,q0,q1,q2,q3,q4,q5]
end Go.Proofs.YtncdpanfefnjlaaGreatDoor