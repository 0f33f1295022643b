import Derived.Test.YtncdpanfefnjlaaGreatDoorProg
import Derived.Test.YtncdpanfefnjlaaGreatDoorHashb
set_option linter.unusedVariables false
set_option linter.unusedSimpArgs false
set_option maxHeartbeats 800000
set_option maxRecDepth 100000
namespace Go.Proofs.YtncdpanfefnjlaaGreatDoor
open Go.Proofs.Tryz
open Go
section
variable {P:Program} {ops:Array Oper} {md:Region.Mode} {Q:Exit→Act→World→Prop}
def aHy (md:Region.Mode) (c:Array Oper) (n:Nat) (b:List (List Nat)) (a:Array Bool):Bool:=
 decide (Region.ready md c a=b.map (·.headD 0)) && !b.isEmpty && b.all fun
  | t::r=>decide (r.length=n) && zP md c r (a.setIfInBounds t true)
  | []=>false
def aHz (md:Region.Mode) (a:Array Oper) (n:Nat) (b:List (List Nat)):List Nat→Array Bool→Bool
 | k::ks,listed=>(Region.ready md a listed).contains k && Region.free md a listed k && aHz md a n b ks (listed.setIfInBounds k true)
 | [],listed=>aHy md a n b listed
theorem NF (n:Nat) (c:List (List Nat)) (b:Array Bool) (a:Act) (w:World) (u:aHy md ops n c b=true) (h:∀ts ∈ c,wpList P ops Q (eB ops ts) a w):wpAny P md ops Q (n+1) b a w:=by
 simp only [aHy,An,As,Ax] at u;obtain ⟨⟨s,m⟩,d⟩:=u;have g:c ≠ []:=by intro e;subst e;simp at m
 refine wpAny_all s (by simpa using g) fun i x=>?_
 obtain ⟨ts,j,q⟩:=Bp.1 x;have k:=d ts j;have l:=h ts j
 match ts,k,q,l with
 | t::r,k,q,l=>
  obtain rfl:t=i:=by simpa using q
  simp only [An,As] at k;obtain ⟨B,z⟩:=k;have f:t ∈ Region.ready md ops b:=by rw [s];exact x
  obtain ⟨_,o,v,_⟩:=mem_ready.1 f;have p:wpOp P ops Q t (wpList P ops Q (eB ops r)) a w:=by
   unfold wpOp;simp only [v];have:eB ops (t::r)=o::eB ops r:=by simp [eB,v]
   rw [this] at l;exact l
  have:=wpOp_mono (fun y w' A=>zO r (b.setIfInBounds t true) y w' z A) p
  rwa [B] at this
theorem UY (p:Region.noSelect ops=true) (m:∀c d v a w,Q (.panic c) (Act.put a d v) w→Q (.panic c) a w) {w:World} (n:Nat) (f:List (List Nat)) :
 ∀ (g:List Nat) (b:Array Bool) (a:Act),aHz md ops n f g b=true →
  iI P ops (fun u=>∀ts ∈ f,wpList P ops Q (eB ops ts) u w) (eB ops g) a→wpAny P md ops Q (g.length+(n+1)) b a w
 | [],b,a,hB,h=>by
  rw [Bz,Ca];exact NF n f b a w hB (by simpa [eB,iI] using h)
 | k::g,b,a,hB,h=>by
  simp only [aHz,An] at hB;obtain ⟨⟨q,r⟩,j⟩:=hB;have i:k ∈ Region.ready md ops b:=by simpa using q
  obtain ⟨_,o,l,_⟩:=mem_ready.1 i;have e:eB ops (k::g)=o::eB ops g:=by simp [eB,l]
  rw [e] at h;obtain ⟨v,s,t⟩:=h;have:=UY p m n f g (b.setIfInBounds k true) (a.put o.dst v) j t;rw [Ag,show g.length+1+(n+1)=(g.length+(n+1))+1 by omega]
  exact wpAny_take l p r q (fun c a w h=>m c _ _ a w h) s this
theorem qS {id:Nat} {a:Act} {w:World} {l:List Oper} (f:List Nat) (n:Nat) (b:List (List Nat)) (k:P.follows .mixedOrders=true)
 (i:(Region.noSelect l.toArray && decide (f.length+(n+1)=l.length) && aHz .any l.toArray n b f (Array.replicate l.toArray.size false))=true)
 (m:∀c d v a w,Q (.panic c) (Act.put a d v) w→Q (.panic c) a w)
 (h:iI P l.toArray (fun p=>∀ts ∈ b,wpList P l.toArray Q (eB l.toArray ts) p w.drew) (eB l.toArray f) a):(Code.region id l.toArray true).wp P Q a w:=by
 simp only [An,As] at i;obtain ⟨⟨o,j⟩,g⟩:=i;refine wp_region_any k ?_;have H:=UY (md:=.any) (Q:=Q) o m (w:=w.drew) n b f _ a g h;rw [j] at H;have e:l.toArray.size=l.length:=by simp
 rw [e];rw [e] at H;exact H
def yS (P:Program) (b:Array Oper) (Q:Exit→Act→World→Prop) (p:Nat × List (List Nat)) (a:Act) (w:World):Prop:=
 wpOp P b Q p.1 (fun c w'=>∀ts ∈ p.2,wpList P b Q (eB b ts) c w') a w
def aEh (md:Region.Mode) (b:Array Oper) (n:Nat) (c:List (Nat × List (List Nat))) (a:Array Bool):Bool:=
 decide (Region.ready md b a=c.map (·.1)) && !c.isEmpty && c.all fun p=>aHy md b n p.2 (a.setIfInBounds p.1 true)
def UZ (md:Region.Mode) (a:Array Oper) (n:Nat) (b:List (Nat × List (List Nat))):List Nat→Array Bool→Bool
 | k::ks,listed=>(Region.ready md a listed).contains k && Region.free md a listed k && UZ md a n b ks (listed.setIfInBounds k true)
 | [],listed=>aEh md a n b listed
theorem ZP (n:Nat) (f:List (Nat × List (List Nat))) (b:Array Bool) (a:Act) (w:World) (j:aEh md ops n f b=true) (h:∀p ∈ f,yS P ops Q p a w):wpAny P md ops Q (n+1+1) b a w:=by
 simp only [aEh,An,As,Ax] at j;obtain ⟨⟨o,g⟩,d⟩:=j;have c:f ≠ []:=by intro e;subst e;simp at g
 refine wpAny_all o (by simpa using c) fun i l=>?_
 obtain ⟨p,k,r⟩:=Bp.1 l;subst r;exact wpOp_mono (fun q w' m=>NF n p.2 _ q w' (d p k) m) (h p k)
theorem NH (q:Region.noSelect ops=true) (m:∀c d v a w,Q (.panic c) (Act.put a d v) w→Q (.panic c) a w) {w:World} (n:Nat) (i:List (Nat × List (List Nat))) :
 ∀ (f:List Nat) (b:Array Bool) (a:Act),UZ md ops n i f b=true →
  iI P ops (fun x=>∀p ∈ i,yS P ops Q p x w) (eB ops f) a→wpAny P md ops Q (f.length+(n+1+1)) b a w
 | [],b,a,hB,h=>by
  rw [Bz,Ca];exact ZP n i b a w hB (by simpa [eB,iI] using h)
 | k::f,b,a,hB,h=>by
  simp only [UZ,An] at hB;obtain ⟨⟨r,s⟩,j⟩:=hB;have g:k ∈ Region.ready md ops b:=by simpa using r
  obtain ⟨_,o,l,_⟩:=mem_ready.1 g;have e:eB ops (k::f)=o::eB ops f:=by simp [eB,l]
  rw [e] at h;obtain ⟨v,t,u⟩:=h;have:=NH q m n i f (b.setIfInBounds k true) (a.put o.dst v) j u;rw [Ag,show f.length+1+(n+1+1)=(f.length+(n+1+1))+1 by omega]
  exact wpAny_take l q s r (fun c a w h=>m c _ _ a w h) t this
theorem yR {id:Nat} {a:Act} {w:World} {l:List Oper} (b:List Nat) (n:Nat) (g:List (Nat × List (List Nat))) (k:P.follows .mixedOrders=true)
 (i:(Region.noSelect l.toArray && decide (b.length+(n+1+1)=l.length) && UZ .any l.toArray n g b (Array.replicate l.toArray.size false))=true)
 (m:∀c d v a w,Q (.panic c) (Act.put a d v) w→Q (.panic c) a w)
 (h:iI P l.toArray (fun q=>∀p ∈ g,yS P l.toArray Q p q w.drew) (eB l.toArray b) a):(Code.region id l.toArray true).wp P Q a w:=by
 simp only [An,As] at i;obtain ⟨⟨o,j⟩,f⟩:=i;refine wp_region_any k ?_;have H:=NH (md:=.any) (Q:=Q) o m (w:=w.drew) n g b _ a f h;rw [j] at H;have e:l.toArray.size=l.length:=by simp
 rw [e];rw [e] at H;exact H
theorem aKd {p:Nat × List (List Nat)} {a:Act} {w:World} {o:Oper} (q:ops[p.1]?=some o) (j:o.guard=none) (e:Option Tmp) (f:o.dst=e) (ty:TypeId) (x:Operand) (l:o.op=.load ty x)
 (b c:Nat) (n:a.eval x=.pointer (some ⟨b,c,none⟩)) (g:Vl) (d:TypeDesc) (r:w.rangeAt b c g)
 (k:P.underlying ty=some d) (m:d.isRow=true) (i:(P.info? ty).map (·.size)=some g.length)
 (h:∀ts ∈ p.2,wpList P ops Q (eB ops ts) (a.put e (.agg g.toArray)) w):yS P ops Q p a w:=by
 subst f;unfold yS wpOp;have s:Region.wanted o (yielded ops a.tmps)=true:=by simp [Region.wanted,j]
 simp only [q,s,if_true];exact .inl (wp_load_mid ty x l b c n g d r k m i h)
theorem aKe {p:Nat × List (List Nat)} {a:Act} {w:World} {o:Oper} (g:ops[p.1]?=some o) (d:o.guard=none) (b:Option Tmp) (c:o.dst=b) (ty:TypeId) (f:o.op=.alloc ty)
 (z:Value) (e:∀w,(zeroValue ty).run P w=.ok z w)
 (h:∀ts ∈ p.2,wpList P ops Q (eB ops ts) (a.put b (.pointer (some ⟨w.heap.size,0,none⟩))) (w.alloc (.cells z.cells ty))):yS P ops Q p a w:=by
 subst c;unfold yS wpOp;have i:Region.wanted o (yielded ops a.tmps)=true:=by simp [Region.wanted,d]
 simp only [g,i,if_true];refine .inl ?_;unfold Oper.wp;simp [execOp,f,e,go_sem];exact h
end
end Go.Proofs.YtncdpanfefnjlaaGreatDoor
namespace Go.Proofs.YtncdpanfefnjlaaGreatDoor
open Go.Proofs.Tryz
open Go.ChangeShapes Go.WideShapes Go.ChangeAt Go.RowKit
theorem rH (i:List Int) (s:Bt) (w:World) (I:i.length=8) (hK:uJ w) (P:2<w.heap.size) :
 Calls prog 71 #[.agg (gP i).toArray,.string s] w fun e w'=>e=.returned (.agg (gP (kQ i s.data.toList (s.size / 64))).toArray)∧Below w.heap.size w w':=by
 obtain ⟨L,hL⟩:∃L,L=s.data.toList:=⟨_,rfl⟩;have x:L.length=s.size:=by rw [hL];simp
 obtain ⟨HV,r⟩:∃V,V=gP i:=⟨_,rfl⟩;have xf:HV.length=8:=by rw [r,dN,I]
 rw [←hL,←r];have xc:=Hh hL;have xa:=Hh r;clear hL r
 go_enter func71,ntmps71
 go_wp2
 go_loopw [1] (fun v wr=>∃n:Nat,∃q:Bt,64 * n≤L.length∧v=.string q∧q.data.toList=L.drop (64 * n)∧Arr wr w.heap.size 107 (gP (kQ i L n))∧Arr wr (w.heap.size+1) 107 (zs 8)∧Below w.heap.size w wr) (fun v _=>match v with | .string q=>q.size | _=>0)
 case atStart=>
  refine ⟨0,s,by omega,rfl,by rw [←xc.o];rfl,?_,?_,?_⟩
  ·have:=(Arr.new w HV 107).alloc (.cells (zs 8).toArray 107)
   rw [xa.o] at this;rw [xa.o];exact this
  ·exact Arr.new2 w _ (zs 8) 107
  ·exact ((Br _ _).alloc (Lr _) _).alloc (by simp) _
 case round=>
  obtain ⟨n,q,hn,rfl,hq,O,a2,Z⟩:=hrel;have z:q.size=L.length - 64 * n:=by
   have:q.data.toList.length=q.size:=by simp
   rw [←this,hq,Ce]
  by_cases xg:64≤q.size
  ·obtain ⟨b,W⟩:∃b,q.extract 0 64=b:=⟨_,rfl⟩
   have G:b.size=64:=by rw [←W,pL _ _ _ (by omega) (by omega)]
   have S:b.data.toList=blk L n:=by rw [←W,mE,hq];rfl
   obtain ⟨YV,m⟩:∃V,V=gP (kQ i L n):=⟨_,rfl⟩;have t:YV.length=8:=by rw [m,dN,gY i L I n]
   obtain ⟨WV,y⟩:∃V,V=gP (wOf (blk L n)):=⟨_,rfl⟩;obtain ⟨CV,l⟩:∃V,V=gP (kQ i L (n+1)):=⟨_,rfl⟩;have R:CV.length=8:=by rw [l,dN,gY i L I (n+1)]
   have J:∀v ∈ CV,v.oneCell'=true:=by rw [l];exact mU _
   have C:=Hh (fun (wx:World)=>SJ b wx G)
   rw [S,←y] at C;have A:=Hh (fun (wx:World)=>JD (kQ i L n) (wOf (blk L n)) wx (gY i L I n) (PK _))
   rw [show OB (kQ i L n) (wOf (blk L n))=kQ i L (n+1) from rfl,←y,←m,←l] at A
   rw [←m] at O;have HC:=Hh l;have Y:uJ wr:=hK.below Z P;have u:2<wr.heap.size:=Ll P Z.size;have HQ:=Hh hq;have H:=Hh z;have N:=Hh x;have Q:=Hh hn;have T:(64:Int)≤(q.size:Int):=by omega
   clear hq S z x hn m y l G
   go_wp2
   refine qS [1,2] 3 [[0,3,4,5],[3,0,4,5]] (by kernel_rfl) (by kernel_rfl) (fun _ d _ _ _ h=>by cases d <;> exact h) ?_
   simp only [eB,Dh,Dm,Cw,Cn,Co]
   iterate 2 (refine oV ?_ ?_ ?_ (fun K hK=>?_);rotate_left;(rfl);(intro w0;go_simp;(try rfl));(go_simp;refine hK _ ?_;clear hK K))
   refine rN ?_;have f:Arr wr.drew w.heap.size 107 YV:=O;have j:Arr wr.drew (w.heap.size+1) 107 (zs 8):=a2;have k:Below w.heap.size w wr.drew:=Z.drew;have E:uJ wr.drew:=Y;have g:2<wr.drew.heap.size:=u;generalize wr.drew=wd at f j k E g ⊢;clear O a2 Z Y u;have p:=f.lt;intro ts U;simp only [Bl,Bn,Dl] at U;rcases U with rfl | rfl
   ·simp only [Dh,Dm,Cw,Cn,Co]
    change wpList _ _ _ [_,_,_,_] _ _
    go_wp2_with (first | (refine wF rfl 107 (.tmp 2) rfl _ rfl f underlying107 iW t ?_) | (go_at_call 108;(with_reducible refine (C.o _).mono ?_);rintro e w1 ⟨rfl,a⟩) | (go_at_call 107;(with_reducible refine (A.o _ (E.below a g) (Ll g a.size)).mono ?_);rintro e w2 ⟨rfl,c⟩) | (refine qR rfl 107 (.tmp 2) (.tmp 12) rfl _ CV rfl rfl ((f.below a p).below c (Ll p a.size)) iW t R J ?_))
    go_roundw
    case rel=>
     have D:=(k.trans ((a.mono k.size).trans (c.mono (Af k.size a.size))));refine ⟨n+1,q.extract 64 q.size,?_,rfl,?_,?_,?_,eI D _ (Lr _) _⟩
     ·have:=H.o;have:=N.o;have:=Q.o;omega
     ·rw [mE,iB,HQ.o,List.drop_drop];congr 1
     ·rw [←HC.o]
      exact ((f.below a p).below c (Ll p a.size)).setRow _
     ·exact ((j.below a j.lt).below c (Ll j.lt a.size)).besideRow _ _ (by omega)
    case measure=>simp;omega
   ·simp only [Dh,Dm,Cw,Cn,Co]
    change wpList _ _ _ [_,_,_,_] _ _
    go_wp2_with (first | (refine wF rfl 107 (.tmp 2) rfl _ rfl (f.below a p) underlying107 iW t ?_) | (go_at_call 108;(with_reducible refine (C.o _).mono ?_);rintro e w1 ⟨rfl,a⟩) | (go_at_call 107;(with_reducible refine (A.o _ (E.below a g) (Ll g a.size)).mono ?_);rintro e w2 ⟨rfl,c⟩) | (refine qR rfl 107 (.tmp 2) (.tmp 12) rfl _ CV rfl rfl ((f.below a p).below c (Ll p a.size)) iW t R J ?_))
    go_roundw
    case rel=>
     have D:=(k.trans ((a.mono k.size).trans (c.mono (Af k.size a.size))));refine ⟨n+1,q.extract 64 q.size,?_,rfl,?_,?_,?_,eI D _ (Lr _) _⟩
     ·have:=H.o;have:=N.o;have:=Q.o;omega
     ·rw [mE,iB,HQ.o,List.drop_drop];congr 1
     ·rw [←HC.o]
      exact ((f.below a p).below c (Ll p a.size)).setRow _
     ·exact ((j.below a j.lt).below c (Ll j.lt a.size)).besideRow _ _ (by omega)
    case measure=>simp;omega
  ·have M:n=s.size / 64:=by omega
   have X:=gY i L I n;obtain ⟨V,F⟩:∃V,V=gP (kQ i L n):=⟨_,rfl⟩;have B:V.length=8:=by rw [F,dN,X]
   have xb:∀v ∈ V,v.oneCell'=true:=by rw [F];exact mU _
   rw [←F] at O;have xe:Hid (V=gP (kQ i L (s.size / 64))):=by rw [←M];exact F
   have xd:=a2.setRow V;have T:(q.size:Int)<64:=by omega
   clear F X M z x hn hq
   go_wp2_with (first | (refine wF rfl 107 (.tmp 2) rfl _ rfl O underlying107 iW B ?_) | (refine qR rfl 107 (.tmp 4) (.tmp 15) rfl _ V rfl rfl a2 iW (lL 8) B xb ?_))
   refine Au (v:=.agg V.toArray) (GQ rfl _ _ _ rfl xd underlying107 iW B) rfl ⟨by rw [xe.o],eI Z (w.heap.size+1) (by omega) _⟩
end Go.Proofs.YtncdpanfefnjlaaGreatDoor
namespace Go.Proofs.YtncdpanfefnjlaaGreatDoor
open Go.Proofs.Tryz
open Go.Shelf Go.RowKit
def aAd:Go.Shelf.Ren:=⟨fun | 240=>95 | 276=>118 | 167=>109 | 166=>62 | 169=>64 | 165=>61 | 241=>96 | 277=>119 | n=>n,fun | 0=>0 | 3=>3 | 4=>4 | 5=>5 | 9=>9 | 20=>20 | 37=>69 | 70=>89 | 72=>91 | 75=>94 | 80=>44 | 127=>133 | 164=>154 | n=>n,fun | n=>n⟩
def aLk:Go.Shelf.Ren:=⟨fun | 35=>110 | 52=>95 | 59=>118 | n=>n,fun | 0=>0 | 3=>3 | 4=>4 | 5=>5 | 9=>9 | 20=>20 | 30=>69 | 36=>89 | 38=>94 | 59=>91 | 73=>154 | 89=>44 | n=>n,fun | n=>n⟩
theorem aHj:Go.Proofs.Lays.n240 prog aAd:={
 mixed:=by kernel_rfl
 f240:=Tryz.func95.trans (Ad some (by kernel_rfl))
 f276:=Tryz.func118.trans (Ad some (by kernel_rfl))
 t0:=underlying0
 a0:=isAgg0
 z0:=sizeOf0
 v0:=zeroValue0
 t4:=underlying4
 a4:=isAgg4
 z4:=sizeOf4
 v4:=zeroValue4
 t9:=underlying9
 a9:=isAgg9
 z9:=sizeOf9
 v9:=zeroValue9
 t20:=underlying20
 a20:=isAgg20
 z20:=sizeOf20
 v20:=zeroValue20
 t70:=underlying89
 a70:=isAgg89
 z70:=sizeOf89
 v70:=zeroValue89
 t72:=underlying91
 a72:=isAgg91
 z72:=sizeOf91
 v72:=zeroValue91
 t164:=underlying154
 a164:=isAgg154
 z164:=sizeOf154
 v164:=zeroValue154
}
theorem aHm:Go.Proofs.Lays.n167 prog aAd:={
 mixed:=by kernel_rfl
 f167:=Tryz.func109.trans (Ad some (by kernel_rfl))
 f240:=Tryz.func95.trans (Ad some (by kernel_rfl))
 f276:=Tryz.func118.trans (Ad some (by kernel_rfl))
 t0:=underlying0
 a0:=isAgg0
 z0:=sizeOf0
 v0:=zeroValue0
 t4:=underlying4
 a4:=isAgg4
 z4:=sizeOf4
 v4:=zeroValue4
 t5:=underlying5
 a5:=isAgg5
 z5:=sizeOf5
 v5:=zeroValue5
 t9:=underlying9
 a9:=isAgg9
 z9:=sizeOf9
 v9:=zeroValue9
 t20:=underlying20
 a20:=isAgg20
 z20:=sizeOf20
 v20:=zeroValue20
 t37:=underlying69
 a37:=isAgg69
 z37:=sizeOf69
 v37:=zeroValue69
 t70:=underlying89
 a70:=isAgg89
 z70:=sizeOf89
 v70:=zeroValue89
 t72:=underlying91
 a72:=isAgg91
 z72:=sizeOf91
 v72:=zeroValue91
 t75:=underlying94
 a75:=isAgg94
 z75:=sizeOf94
 v75:=zeroValue94
 t164:=underlying154
 a164:=isAgg154
 z164:=sizeOf154
 v164:=zeroValue154
}
theorem aHn:Go.Proofs.Lays.n166 prog aAd:={
 mixed:=by kernel_rfl
 f166:=Tryz.func62.trans (Ad some (by kernel_rfl))
 f240:=Tryz.func95.trans (Ad some (by kernel_rfl))
 f276:=Tryz.func118.trans (Ad some (by kernel_rfl))
 t0:=underlying0
 a0:=isAgg0
 z0:=sizeOf0
 v0:=zeroValue0
 t3:=underlying3
 a3:=isAgg3
 z3:=sizeOf3
 v3:=zeroValue3
 t4:=underlying4
 a4:=isAgg4
 z4:=sizeOf4
 v4:=zeroValue4
 t9:=underlying9
 a9:=isAgg9
 z9:=sizeOf9
 v9:=zeroValue9
 t20:=underlying20
 a20:=isAgg20
 z20:=sizeOf20
 v20:=zeroValue20
 t37:=underlying69
 a37:=isAgg69
 z37:=sizeOf69
 v37:=zeroValue69
 t70:=underlying89
 a70:=isAgg89
 z70:=sizeOf89
 v70:=zeroValue89
 t72:=underlying91
 a72:=isAgg91
 z72:=sizeOf91
 v72:=zeroValue91
 t75:=underlying94
 a75:=isAgg94
 z75:=sizeOf94
 v75:=zeroValue94
 t164:=underlying154
 a164:=isAgg154
 z164:=sizeOf154
 v164:=zeroValue154
}
theorem aHl:Go.Proofs.Lays.n169 prog aAd:={
 mixed:=by kernel_rfl
 f169:=Tryz.func64.trans (Ad some (by kernel_rfl))
 t0:=underlying0
 a0:=isAgg0
 z0:=sizeOf0
 v0:=zeroValue0
 t3:=underlying3
 a3:=isAgg3
 z3:=sizeOf3
 v3:=zeroValue3
 t9:=underlying9
 a9:=isAgg9
 z9:=sizeOf9
 v9:=zeroValue9
 t37:=underlying69
 a37:=isAgg69
 z37:=sizeOf69
 v37:=zeroValue69
 t70:=underlying89
 a70:=isAgg89
 z70:=sizeOf89
 v70:=zeroValue89
 t72:=underlying91
 a72:=isAgg91
 z72:=sizeOf91
 v72:=zeroValue91
 t127:=underlying133
 a127:=isAgg133
 z127:=sizeOf133
 v127:=zeroValue133
}
theorem aHo:Go.Proofs.Lays.n165 prog aAd:={
 mixed:=by kernel_rfl
 f165:=Tryz.func61.trans (Ad some (by kernel_rfl))
 f240:=Tryz.func95.trans (Ad some (by kernel_rfl))
 f241:=Tryz.func96.trans (Ad some (by kernel_rfl))
 f276:=Tryz.func118.trans (Ad some (by kernel_rfl))
 f277:=Tryz.func119.trans (Ad some (by kernel_rfl))
 t0:=underlying0
 a0:=isAgg0
 z0:=sizeOf0
 v0:=zeroValue0
 t3:=underlying3
 a3:=isAgg3
 z3:=sizeOf3
 v3:=zeroValue3
 t4:=underlying4
 a4:=isAgg4
 z4:=sizeOf4
 v4:=zeroValue4
 t9:=underlying9
 a9:=isAgg9
 z9:=sizeOf9
 v9:=zeroValue9
 t20:=underlying20
 a20:=isAgg20
 z20:=sizeOf20
 v20:=zeroValue20
 t37:=underlying69
 a37:=isAgg69
 z37:=sizeOf69
 v37:=zeroValue69
 t70:=underlying89
 a70:=isAgg89
 z70:=sizeOf89
 v70:=zeroValue89
 t72:=underlying91
 a72:=isAgg91
 z72:=sizeOf91
 v72:=zeroValue91
 t164:=underlying154
 a164:=isAgg154
 z164:=sizeOf154
 v164:=zeroValue154
}
theorem aKb:Go.Proofs.Lays7.n35 prog aLk:={
 mixed:=by kernel_rfl
 f35:=Tryz.func110.trans (Ad some (by kernel_rfl))
 f52:=Tryz.func95.trans (Ad some (by kernel_rfl))
 f59:=Tryz.func118.trans (Ad some (by kernel_rfl))
 t0:=underlying0
 a0:=isAgg0
 z0:=sizeOf0
 v0:=zeroValue0
 i0:=by kernel_rfl
 t3:=underlying3
 a3:=isAgg3
 z3:=sizeOf3
 v3:=zeroValue3
 i3:=by kernel_rfl
 t4:=underlying4
 a4:=isAgg4
 z4:=sizeOf4
 v4:=zeroValue4
 i4:=by kernel_rfl
 t9:=underlying9
 a9:=isAgg9
 z9:=sizeOf9
 v9:=zeroValue9
 i9:=by kernel_rfl
 t20:=underlying20
 a20:=isAgg20
 z20:=sizeOf20
 v20:=zeroValue20
 i20:=by kernel_rfl
 t30:=underlying69
 a30:=isAgg69
 z30:=sizeOf69
 v30:=zeroValue69
 i30:=by kernel_rfl
 t36:=underlying89
 a36:=isAgg89
 z36:=sizeOf89
 v36:=zeroValue89
 i36:=by kernel_rfl
 t38:=underlying94
 a38:=isAgg94
 z38:=sizeOf94
 v38:=zeroValue94
 i38:=by kernel_rfl
 t59:=underlying91
 a59:=isAgg91
 z59:=sizeOf91
 v59:=zeroValue91
 i59:=by kernel_rfl
 t73:=underlying154
 a73:=isAgg154
 z73:=sizeOf154
 v73:=zeroValue154
 i73:=by kernel_rfl
}
theorem CB:Builder.Extra prog aAd:={
 sizeBuilder:=by kernel_rfl
 liesBuilder:=by kernel_rfl
 t5:=underlying5
 a5:=isAgg5
 z5:=sizeOf5
 v5:=zeroValue5
 infoByte:=by kernel_rfl
 cellsByte:=by kernel_rfl
 sizeByte:=by kernel_rfl
 neB5:=by decide }
theorem xN (B b:Nat) (d:Vl) (c:Int) (w:World) (h:Lib.IsBuilder 91 5 B b d w) (a:d.length+1≤140737488355328) (f:B≤w.heap.size) :
 Calls prog 109 #[.pointer (some ⟨b,0,none⟩),.int .u8 c] w fun e w'=>e=.returned .nilIface∧(Lib.BuilderAt 91 5 B b (.pointer (some ⟨b,0,none⟩)) (d++[.int .u8 c]) w'∧Below B w w'):=
 Any.Builder_WriteByte aHm CB B b d c w h a f
theorem DJ (B b:Nat) (c:Vl) (s:Bt) (w:World) (h:Lib.IsBuilder 91 5 B b c w) (a:c.length+s.size≤140737488355328) (d:B≤w.heap.size) :
 Calls prog 62 #[.pointer (some ⟨b,0,none⟩),.string s] w fun e w'=>e=.returned (.tuple #[Iz s.size,.nilIface])∧(Lib.BuilderAt 91 5 B b (.pointer (some ⟨b,0,none⟩)) (c++Lib.strCells s) w'∧Below B w w'):=
 Any.Builder_WriteString aHn CB B b c s w h a d
theorem aFg (B b:Nat) (l:Ub) (w:World) (h:Lib.IsBuilder 91 5 B b (Lib.byteCells l) w) (a:B≤w.heap.size) :
 Calls prog 64 #[.pointer (some ⟨b,0,none⟩)] w fun e w'=>e=.returned (.string ⟨l.toArray⟩)∧Below B w w':=
 Any.Builder_String_any aHl CB B b l w h a
theorem aKg (B b n:Nat) (w:World) (f:B≤b) (a:w.heap[b]?=some (.cells #[.pointer none,Sn] 91 (0,0))) (c:B≤w.heap.size) (d:n≤281474976710656) :
 Calls prog 61 #[.pointer (some ⟨b,0,none⟩),Iz n] w fun e w'=>e=.returned (.tuple #[])∧(Lib.BuilderAt 91 5 B b (.pointer (some ⟨b,0,none⟩)) [] w'∧Below B w w'):=
 Any.Builder_Grow_fresh aHo CB B b n w f a c d
theorem aIj (B b:Nat) (k:Vl) (i:Addr) (m c:Nat) (a:Vl) (w:World) (h:Lib.IsBuilder 91 5 B b k w)
 (o:a.length=m) (d:∀j u,a[j]?=some u→w.cell? (i.add j)=some u) (f:i.block<B) (n:∀u ∈ a,u.oneCell'=true)
 (g:k.length+m≤140737488355328) (l:B≤w.heap.size) :
 Calls prog 110 #[.pointer (some ⟨b,0,none⟩),.slice (some i) m c] w fun e w'=>e=.returned (.tuple #[Iz m,.nilIface])∧(Lib.BuilderAt 91 5 B b (.pointer (some ⟨b,0,none⟩)) (k++a) w'∧Below B w w'):=
 Any7.Builder_Write aKb aHj CB rfl rfl rfl B b k i m c a w h o d f n g l
end Go.Proofs.YtncdpanfefnjlaaGreatDoor
namespace Go.Proofs.YtncdpanfefnjlaaGreatDoor
open Go.Proofs.Tryz
open Go.ChangeShapes Go.WideShapes Go.ChangeAt Go.RowKit
theorem EM (w:World) (g o:Nat) (x:Int):(LU w g o x).heap.size=w.heap.size:=by simp [LU,World.setCell]
theorem aAg (n:Nat):be8 n=[dC ((n:Int) / 4294967296 % 4294967296 / 16777216),dC ((n:Int) / 4294967296 % 4294967296 / 65536),dC ((n:Int) / 4294967296 % 4294967296 / 256),dC ((n:Int) / 4294967296 % 4294967296),
 dC ((n:Int) % 4294967296 / 16777216),dC ((n:Int) % 4294967296 / 65536),dC ((n:Int) % 4294967296 / 256),dC ((n:Int) % 4294967296)]:=by
 have e:∀ (m:Nat) (x:Int),x % 256=((m % 256:Nat):Int)→UInt8.ofNat m=dC x:=by
  intro m x h;unfold dC;rw [h]
  apply UInt8.toNat_inj.1
  rw [Bb,Bb];omega
 show [UInt8.ofNat (n / 72057594037927936),UInt8.ofNat (n / 281474976710656),UInt8.ofNat (n / 1099511627776),UInt8.ofNat (n / 4294967296),UInt8.ofNat (n / 16777216),UInt8.ofNat (n / 65536),UInt8.ofNat (n / 256),UInt8.ofNat (n / 1)]=_
 refine Ec.2 ⟨e _ _ ?_,Ec.2 ⟨e _ _ ?_,Ec.2 ⟨e _ _ ?_,Ec.2 ⟨e _ _ ?_,Ec.2 ⟨e _ _ ?_,Ec.2 ⟨e _ _ ?_,Ec.2 ⟨e _ _ ?_,Ec.2 ⟨e _ _ ?_,rfl⟩⟩⟩⟩⟩⟩⟩⟩ <;> omega
theorem aLo (n:Nat):∃z:Nat,((119:Int) - (n:Int) % 64) % 64=(z:Int)∧z<64∧z=(119 - n % 64) % 64:=by
 obtain ⟨m,b⟩:∃m,m=n % 64:=⟨_,rfl⟩;have a:(n:Int) % 64=(m:Int):=by omega
 have c:m<64:=by omega
 rw [a,←b];exact ⟨(119 - m) % 64,by omega,by omega,rfl⟩
theorem QR (s:Bt) (n:Nat) (w:World) (hs:s.size≤1099511627776) (hn:n≤1099511627776) :
 Calls prog 72 #[.string s,Iz n] w fun e w'=>e=.returned (.string ⟨(oZ s.data.toList n).toArray⟩)∧Below w.heap.size w w':=by
 obtain ⟨z,hz,xd,G⟩:=aLo n;obtain ⟨R,Z⟩:∃R,R=oZ s.data.toList n:=⟨_,rfl⟩;have hP:Hid (R=s.data.toList++([128]++(List.replicate z 0++be8 (8 * n)))):=Hh (by rw [Z,G];unfold oZ;rfl)
 rw [←Z];clear Z;have t:=aAg (8 * n);rw [show ((8 * n:Nat):Int)=8 * (n:Int) by push_cast;rfl] at t
 rw [show 8 * (n:Int) / 4294967296 % 4294967296=8 * (n:Int) / 4294967296 by omega] at t
 have K:=Hh t;clear G t;have A0:Arr (w.alloc (.cells #[Value.int .u8 0,Value.int .u8 0,Value.int .u8 0,Value.int .u8 0,Value.int .u8 0,Value.int .u8 0,Value.int .u8 0,Value.int .u8 0] 143)) w.heap.size 143 [Value.int .u8 0,Value.int .u8 0,Value.int .u8 0,Value.int .u8 0,Value.int .u8 0,Value.int .u8 0,Value.int .u8 0,Value.int .u8 0]:=Arr.new w [Value.int .u8 0,Value.int .u8 0,Value.int .u8 0,Value.int .u8 0,Value.int .u8 0,Value.int .u8 0,Value.int .u8 0,Value.int .u8 0] _;obtain ⟨x1,J⟩:∃x,8 * (n:Int) / 4294967296=x:=⟨_,rfl⟩;obtain ⟨x2,S⟩:∃x,8 * (n:Int) % 4294967296=x:=⟨_,rfl⟩;have M:=Hh (oX w.heap.size 0 4 8 x1 _ _ _ A0 (by decide) (by omega) (by decide) (by omega))
 have L:=Hh (fun (wx:World) (ha:Arr wx w.heap.size 143 ([]++(aS [dC (x1 / 16777216),dC (x1 / 65536),dC (x1 / 256),dC x1]++[Value.int .u8 0,Value.int .u8 0,Value.int .u8 0,Value.int .u8 0])))=>oX w.heap.size 4 4 4 x2 _ _ wx ha (by simp [aS]) (by omega) (by decide) (by omega))
 go_enter func72,ntmps72
 go_wp2_with (first | (go_at_call 73;(with_reducible refine M.o.mono ?_);rintro e w1 ⟨rfl,C⟩;(try simp only [hz]);have T:=AD (o:=0) (a:=[]) (v0:=.int .u8 0) (v1:=.int .u8 0) (v2:=.int .u8 0) (v3:=.int .u8 0) (b:=[Value.int .u8 0,Value.int .u8 0,Value.int .u8 0,Value.int .u8 0]) (x:=x1) A0 rfl;rw [←C] at T;have D:=Hh C;clear C) | (go_at_call 73;(with_reducible refine (L.o _ T).mono ?_);rintro e F ⟨rfl,A⟩;have A2:=AD (o:=4) (a:=aS [dC (x1 / 16777216),dC (x1 / 65536),dC (x1 / 256),dC x1]) (v0:=.int .u8 0) (v1:=.int .u8 0) (v2:=.int .u8 0) (v3:=.int .u8 0) (b:=[]) (x:=x2) T rfl;rw [←A] at A2;have v:=Hh A;clear A))
 have xb:F.heap.size=w.heap.size+1:=by rw [v.o,EM,D.o,EM];simp
 have E:Below w.heap.size w F:=by
  rw [v.o];refine rO ?_ (Lr _);rw [D.o];exact rO ((Br _ _).alloc (Lr _) _) (Lr _)
 obtain ⟨NB,h⟩:∃l,l=be8 (8 * n):=⟨_,rfl⟩;have A3:Arr F w.heap.size 143 (aS NB):=by
  rw [h,K.o,J,S];exact A2
 have xa:NB.length=8:=by rw [h,TH]
 have xc:Hid (R=s.data.toList++([128]++(List.replicate z 0++NB))):=by rw [h];exact hP
 clear h A2 T M L K hP J S D v;rw [show ((s.size:Int)+1+(z:Int)+8)=((s.size+1+z+8:Nat):Int) by push_cast;rfl]
 obtain ⟨B,V⟩:∃B,B=F.heap.size:=⟨_,rfl⟩;rw [←V];have N:(F.alloc (.cells #[.pointer none,Sn] 91)).heap[B]?=some (.cells #[.pointer none,Sn] 91 (0,0)):=by rw [V];exact Hn _ _
 have y:B≤(F.alloc (.cells #[.pointer none,Sn] 91)).heap.size:=by rw [V];simp
 refine (aKg B B (s.size+1+z+8) _ (Lr _) N y (by omega)).mono ?_
 rintro e Q ⟨rfl,O,q⟩;have g3:Below w.heap.size w Q:=(E.alloc E.size _).trans (q.mono (by omega))
 have N3:Arr Q w.heap.size 143 (aS NB):=(A3.alloc _).below q (by omega)
 have U:B≤Q.heap.size:=Af y q.size;have m:w.heap.size<B:=by omega
 have I3:Lib.IsBuilder 91 5 B B [] Q:=.inr O;clear V xb N y E A3 A0 q O;have I:(Lib.strCells s).length=s.size:=Lib.strCells_length s;have WS:=Hh (DJ B B [] s Q I3 (by simp;omega) U)
 clear I3
 go_wp2_with (first | (go_at_call 62;(with_reducible refine WS.o.mono ?_);rintro e w4 ⟨rfl,H,d⟩;have W:=Hh (xN B B _ 128 w4 (.inr H) (by simp [I];omega) (Af U d.size))) | (go_at_call 109;(with_reducible refine W.o.mono ?_);rintro e w5 ⟨rfl,P,g⟩))
 have g5:Below w.heap.size w w5:=(g3.trans (d.mono (by omega))).trans (g.mono (by omega))
 have N5:Arr w5 w.heap.size 143 (aS NB):=(N3.below d m).below g m;have s5:B≤w5.heap.size:=Af (Af U d.size) g.size;clear H d g g3 N3 U WS W
 go_loopw [36] (fun i wr=>∃j:Nat,j≤z∧i=Iz j∧Lib.IsBuilder 91 5 B B (aS (s.data.toList++([128]++List.replicate j 0))) wr∧Below w.heap.size w wr∧Arr wr w.heap.size 143 (aS NB)∧B≤wr.heap.size) (fun i _=>z - (intOf i).toNat)
 case atStart=>
  refine ⟨0,by omega,rfl,.inr ?_,g5,N5,s5⟩
  simpa [aS,Lib.strCells] using P
 case round=>
  clear P g5 N5 s5;obtain ⟨j,hj,rfl,hI,hb,hN,p⟩:=hrel
  by_cases xe:j<z
  ·have f:(aS (s.data.toList++([128]++List.replicate j 0))).length=s.size+1+j:=by simp [aS];omega
   have W:=Hh (xN B B _ 0 wr hI (by rw [f];omega) p)
   clear f
   go_wp2_with (go_at_call 109;(with_reducible refine W.o.mono ?_);rintro e w6 ⟨rfl,r,c⟩)
   go_roundw
   case rel=>
    refine ⟨j+1,by omega,rfl,.inr ?_,hb.trans (c.mono (by omega)),hN.below c m,Af p c.size⟩
    rw [List.replicate_succ',←Aj [128],←Aj s.data.toList];rw [cF];exact r
   case measure=>simp [intOf];omega
  ·obtain rfl:j=z:=by omega
   have f:(aS (s.data.toList++([128]++List.replicate j 0))).length=s.size+1+j:=by simp [aS];omega
   have WR:=Hh (aIj B B _ ⟨w.heap.size,0,none⟩ 8 8 (aS NB) wr hI (by rw [kK,xa]) (fun k u hk=>by rw [Bs];simpa using hN.cellAt hk) m (by intro u hu;simp [aS] at hu;obtain ⟨b,_,rfl⟩:=hu;rfl) (by rw [f];omega) p)
   clear f
   go_wp2_with (first | (go_at_call 110;(with_reducible refine WR.o.mono ?_);rintro e w6 ⟨rfl,r,c⟩;have ST:=aFg B B R w6 (.inr (by rw [xc.o,←Aj [128],←Aj s.data.toList];rw [←cF] at r;exact r)) (Af p c.size);have Y:=Hh ST;clear ST) | (go_at_call 64;(with_reducible refine Y.o.mono ?_);rintro e w7 ⟨rfl,X⟩))
   go_ret
   exact ⟨rfl,(hb.trans (c.mono (by omega))).trans (X.mono (by omega))⟩
theorem wB:HL.length=8:=rfl
theorem Arr.row {w:World} {g:Nat} {T:TypeId} {a:Vl} (h:Arr w g T a):Row w g T a.length a:=
 ⟨a.toArray,(0,0),h,by simp,Lr _,by simp,.inl rfl⟩
theorem XP (a:List Int) (i:Nat) (b:i<a.length):pA (a.take (i+1))=pA (a.take i)++[dC (a.getD i 0 / 16777216),dC (a.getD i 0 / 65536),dC (a.getD i 0 / 256),dC (a.getD i 0)]:=by
 rw [List.take_succ_eq_append_getElem b];have e:a.getD i 0=a[i]:=by simp [List.getD,b]
 rw [e];simp only [pA,List.flatMap_append,Cl,List.flatMap_nil,By]
theorem aCc (a:List Int):(pA a).length=4 * a.length:=by
 induction a with
 | nil=>rfl
 | cons x r ih=>
  simp only [pA,Cl,Lg,Ag,Bz] at ih ⊢;rw [ih];omega
theorem PV {P:Program} (t e:TypeId) (n g l:Nat) (h:Int) (a:h=(l:Int)) (j:l<n) (b:P.underlying t=some (.array n e)) (d:∀w,(sizeOf e).run P w=.ok 1 w) (w:World) :
 (Instr.sliceAt t (.pointer (some ⟨g,0,none⟩)) (some (Iz h)) none none).run P w=.ok (.slice (some ⟨g,l,none⟩) (n - l) (n - l)) w:=by
 subst a;have f:P.arrayLen t=n:=by simp [Program.arrayLen,b]
 have i:P.elem t=e:=by simp [Program.elem,b]
 rw [run_sliceAt_array_l w t ⟨g,0,none⟩ (by rw [f,i];exact b) .i64 (l:Int) (by omega) (by rw [f];omega),i,d]
 have c:¬n=l:=by omega
 simp [Result.andThen,slicedAt,f,c,Bs]
def aFy (w:World):Prop:=w.rangeAt 0 0 (gP HL)
theorem aFy.below {w w':World} (h:aFy w) {B:Nat} (a:Below B w w') (c:0<B):aFy w':=fun j v b=>by
 rw [a.cell (p:=⟨0,0+j,none⟩) c];exact h j v b
def JI (w:World):Prop:=uJ w∧aFy w∧2<w.heap.size∧0<w.heap.size
theorem JI.below {w w':World} (h:JI w) (a:Below w.heap.size w w'):JI w':=
 ⟨h.1.below a h.2.2.1,h.2.1.below a h.2.2.2,Ll h.2.2.1 a.size,Ll h.2.2.2 a.size⟩
theorem aGs (s:Bt) (w:World) (hs:s.size≤1099511627776) (hT:JI w) :
 Calls prog 39 #[.string s] w fun e w'=>e=.returned (.string ⟨(rM s.data.toList).toArray⟩)∧Below w.heap.size w w':=by
 obtain ⟨L,hL⟩:∃L,L=s.data.toList:=⟨_,rfl⟩;have xh:L.length=s.size:=by rw [hL];simp
 obtain ⟨m,hm⟩:∃m,m=s.size / 64:=⟨_,rfl⟩;have xv:64 * m≤s.size:=by omega
 obtain ⟨k,hk⟩:∃k,k=64 * m:=⟨_,rfl⟩;have x9:(s.size:Int) - (s.size:Int) % 64=(k:Int):=by omega
 have xo:k≤s.size:=by omega
 obtain ⟨q1,xz⟩:∃q,s.extract 0 k=q:=⟨_,rfl⟩;obtain ⟨q2,xq⟩:∃q,s.extract k s.size=q:=⟨_,rfl⟩;have X:q1.size=64 * m:=by rw [←xz,pL _ _ _ (by omega) xo];omega
 have xb:q2.size≤1099511627776:=by rw [←xq,pL _ _ _ xo (Lr _)];omega
 have Y:q1.data.toList=L.take (64 * m):=by rw [←xz,mE,hL,←hk];rfl
 have xa:q2.data.toList=L.drop (64 * m):=by rw [←xq,mE,iB,hL,hk]
 obtain ⟨p,hp⟩:∃p:Bt,p=⟨(oZ q2.data.toList s.size).toArray⟩:=⟨_,rfl⟩;have xk:p.data.toList=oZ (L.drop (64 * m)) L.length:=by rw [hp,←xa,xh]
 have xs:p.size=(oZ (L.drop (64 * m)) L.length).length:=by rw [←xk];simp
 obtain ⟨H0,Q⟩:∃V,V=gP HL:=⟨_,rfl⟩;obtain ⟨h1,R⟩:∃h,h=kQ HL (L.take (64 * m)) m:=⟨_,rfl⟩;have O:h1.length=8:=by rw [R];exact gY _ _ wB _
 obtain ⟨M,E⟩:∃V,V=gP h1:=⟨_,rfl⟩;obtain ⟨u,N⟩:∃h,h=kQ h1 (oZ (L.drop (64 * m)) L.length) ((oZ (L.drop (64 * m)) L.length).length / 64):=⟨_,rfl⟩;have xe:u.length=8:=by rw [N];exact gY _ _ O _
 obtain ⟨S,I⟩:∃V,V=gP u:=⟨_,rfl⟩;have U:=Hh (fun (r:World) (A:uJ r) (hz:2<r.heap.size)=>rH HL q1 r wB A hz)
 rw [Y,X,show 64 * m / 64=m by omega,←R,←E,←Q] at U
 have xd:=Hh (fun (r:World) (A:uJ r) (hz:2<r.heap.size)=>rH h1 p r O A hz)
 rw [xk,xs,←N,←I,←E] at xd;have PD:=Hh (fun (r:World)=>QR q2 s.size r xb hs)
 rw [←hp] at PD;have f:M.length=8:=by rw [E,dN,O]
 have F:∀v ∈ M,v.oneCell'=true:=by rw [E];exact mU _
 have H:S.length=8:=by rw [I,dN,xe]
 have W:∀v ∈ S,v.oneCell'=true:=by rw [I];exact mU _
 have y:w.rangeAt 0 0 H0:=by rw [Q];exact hT.2.1
 have xc:H0.length=8:=by rw [Q,dN,wB]
 have Z:rM L=pA u:=by rw [PS L m (by rw [xh,hm]),N,R]
 have g2:∀j,j<8→S[j]?=some (.int .u32 (u.getD j 0)):=fun j hj=>by rw [I];exact lU u j (by omega)
 have G2:=Hh g2;have xw:=Hh Z;have x8:=Hh y;rw [←hL];obtain ⟨A,_,xn,yg⟩:=hT;have KH:=Hh A;clear hm hk xv hL xh X Y xa xb xk xs hp Q E R I N g2 Z y A O
 go_enter func39,ntmps39
 go_upto_region 2 with fail
 clear x9
 go_cut [4] from 14 (fun v r=>∃g4:Nat,v=.pointer (some ⟨g4,0,none⟩)∧w.heap.size≤g4∧Arr r g4 107 M∧Below w.heap.size w r)
 case first=>
  refine yR [1,2,3] 2 [(0,[[4,5,6],[5,4,6]]),(5,[[0,4,6]])] (by kernel_rfl) (by kernel_rfl) (fun _ d _ _ _ h=>by cases d <;> exact h) ?_
  simp only [eB,Dh,Dm,Cw,Cn,Co]
  iterate 3 (refine oV ?_ ?_ ?_ (fun K A=>?_);rotate_left;(rfl);(intro w0;go_simp;(try rfl));(go_simp;refine A _ ?_;clear A K))
  refine rN ?_;have G:w.drew.rangeAt 0 0 H0:=x8.o;have T:uJ w.drew:=KH.o;have z:2<w.drew.heap.size:=xn;have b:Below w.heap.size w w.drew:=(Br _ _).drew;generalize w.drew=J at G T z b ⊢;intro p hp;simp only [Bl,Bn,Dl] at hp;rcases hp with rfl | rfl
  ·refine aKd (o:=_) rfl rfl (some 14) rfl 107 (.global 0) rfl 0 0 rfl H0 _ G underlying107 rfl (by rw [xc];exact iW) ?_
   intro ts l;simp only [Bl,Bn,Dl] at l;rcases l with rfl | rfl
   ·simp only [eB,Dh,Dm,Cw,Cn,Co]
    change wpList _ _ _ [_,_,_] _ _
    go_wp2_with (first | (go_at_call 71;(with_reducible refine (U.o _ T z).mono ?_);rintro e w1 ⟨rfl,a⟩) | (refine qR rfl 107 (.tmp 4) (.tmp 18) rfl _ M rfl rfl (Arr.new w1 (zs 8) 107) iW (lL 8) f F ?_))
    go_meet
    have c:=b.trans (a.mono b.size);exact ⟨w1.heap.size,rfl,c.size,(Arr.new w1 (zs 8) 107).setRow M,eI (c.alloc c.size _) _ c.size _⟩
   ·simp only [eB,Dh,Dm,Cw,Cn,Co]
    change wpList _ _ _ [_,_,_] _ _
    go_wp2_with (first | (go_at_call 71;(with_reducible refine (U.o _ (T.below (B:=J.heap.size) ((Br _ _).alloc (Lr _) _) z) (by simp;omega)).mono ?_);rintro e w1 ⟨rfl,a⟩) | (refine qR rfl 107 (.tmp 4) (.tmp 18) rfl _ M rfl rfl ((Arr.new J (zs 8) 107).below a (by simp)) iW (lL 8) f F ?_))
    go_meet
    exact ⟨J.heap.size,rfl,b.size,((Arr.new J (zs 8) 107).below a (by simp)).setRow M,eI ((b.alloc b.size _).trans (a.mono (by simp;have:=b.size;omega))) _ b.size _⟩
  ·refine aKe (o:=_) rfl rfl (some 4) rfl 107 rfl _ zeroValue107 ?_
   intro ts l;simp only [Bl,Bn,Dl] at l;subst l;simp only [eB,Dh,Dm,Cw,Cn,Co]
   change wpList _ _ _ [_,_,_] _ _
   have ya:(J.alloc (.cells (zs 8).toArray 107)).rangeAt 0 0 H0:=World.rangeAt_alloc G _
   go_wp2_with (first | (refine wpList_load_mid rfl 107 (.global 0) rfl 0 0 rfl H0 _ ya underlying107 rfl (by rw [xc];exact iW) ?_) | (go_at_call 71;(with_reducible refine (U.o _ (T.below (B:=J.heap.size) ((Br _ _).alloc (Lr _) _) z) (by simp;omega)).mono ?_);rintro e w1 ⟨rfl,a⟩) | (refine qR rfl 107 (.tmp 4) (.tmp 18) rfl _ M rfl rfl ((Arr.new J (zs 8) 107).below a (by simp)) iW (lL 8) f F ?_))
   go_meet
   exact ⟨J.heap.size,rfl,b.size,((Arr.new J (zs 8) 107).below a (by simp)).setRow M,eI ((b.alloc b.size _).trans (a.mono (by simp;have:=b.size;omega))) _ b.size _⟩
 case rest=>
  obtain ⟨g4,rfl,x7,A4,C⟩:=hcut;have x5:uJ wc:=KH.o.below C xn;have xt:2<wc.heap.size:=Ll xn C.size
  go_upto_region 3 with fail
  go_cut [4] from 19 (fun v r=>v=.pointer (some ⟨g4,0,none⟩)∧Arr r g4 107 S∧Below w.heap.size w r)
  case first=>
   refine qS [1,2,3,4,5] 3 [[0,6,7,8],[6,0,7,8]] (by kernel_rfl) (by kernel_rfl) (fun _ d _ _ _ h=>by cases d <;> exact h) ?_
   simp only [eB,Dh,Dm,Cw,Cn,Co]
   iterate 5 (refine oV ?_ ?_ ?_ (fun K A=>?_);rotate_left;(rfl);(intro w0;go_simp;(try rfl));(go_simp;refine A _ ?_;clear A K))
   refine rN ?_;have n:Arr wc.drew g4 107 M:=A4;have xf:uJ wc.drew:=x5;have D:2<wc.drew.heap.size:=xt;have t:Below w.heap.size w wc.drew:=C.drew;generalize wc.drew=J at n xf D t ⊢;have g:=n.lt;intro ts l;simp only [Bl,Bn,Dl] at l;rcases l with rfl | rfl
   ·simp only [eB,Dh,Dm,Cw,Cn,Co]
    change wpList _ _ _ [_,_,_,_] _ _
    go_wp2_with (first | (refine wF rfl 107 (.tmp 4) rfl _ rfl n underlying107 iW f ?_) | (go_at_call 72;(with_reducible refine (PD.o _).mono ?_);rintro e w1 ⟨rfl,a⟩) | (go_at_call 71;(with_reducible refine (xd.o _ (xf.below a D) (Ll D a.size)).mono ?_);rintro e w2 ⟨rfl,c⟩) | (refine qR rfl 107 (.tmp 4) (.tmp 26) rfl _ S rfl rfl ((n.below a g).below c (Ll g a.size)) iW f H W ?_))
    go_meet
    have xl:=t.trans ((a.mono t.size).trans (c.mono (Af t.size a.size)));exact ⟨rfl,((n.below a g).below c (Ll g a.size)).setRow S,eI xl _ x7 _⟩
   ·simp only [eB,Dh,Dm,Cw,Cn,Co]
    change wpList _ _ _ [_,_,_,_] _ _
    go_wp2_with (first | (refine wF rfl 107 (.tmp 4) rfl _ rfl (n.below a g) underlying107 iW f ?_) | (go_at_call 72;(with_reducible refine (PD.o _).mono ?_);rintro e w1 ⟨rfl,a⟩) | (go_at_call 71;(with_reducible refine (xd.o _ (xf.below a D) (Ll D a.size)).mono ?_);rintro e w2 ⟨rfl,c⟩) | (refine qR rfl 107 (.tmp 4) (.tmp 26) rfl _ S rfl rfl ((n.below a g).below c (Ll g a.size)) iW f H W ?_))
    go_meet
    have xl:=t.trans ((a.mono t.size).trans (c.mono (Af t.size a.size)));exact ⟨rfl,((n.below a g).below c (Ll g a.size)).setRow S,eI xl _ x7 _⟩
  case rest=>
   clear A4 C x5 xt;obtain ⟨rfl,A4,C⟩:=hcut;have xx:=A4.alloc (.cells (List.replicate 32 (Value.int .u8 0)).toArray 109)
   go_wp2_with (refine wF rfl 107 (.tmp 4) rfl _ rfl xx underlying107 iW H ?_)
   go_loopw [28] (fun i wr=>∃j:Nat,j≤8∧i=Iz j∧Arr wr wc.heap.size 109 (aS (pA (u.take j))++List.replicate (32 - 4 * j) (.int .u8 0))∧Below w.heap.size w wr) (fun i _=>8 - (intOf i).toNat)
   case atStart=>
    exact ⟨0,by omega,rfl,Arr.new wc (List.replicate 32 (Value.int .u8 0)) 109,C.alloc C.size _⟩
   case round=>
    have ye:=C.size;clear A4 xx C;obtain ⟨j,hj,rfl,hA,C⟩:=hrel
    by_cases xp:j<8
    ·obtain ⟨x,hx⟩:∃x,u.getD j 0=x:=⟨_,rfl⟩
     have gj:=G2.o j xp;rw [hx] at gj;have yf:=qW (P:=prog) 107 106 8 S j _ underlying107 xp isAgg106 sizeOf106 gj;have xg:=XP u j (by omega)
     rw [hx] at xg;have xj:(pA (u.take j)).length=4 * j:=by rw [aCc,Bc,xe];omega
     obtain ⟨o,ho⟩:∃o,o=4 * j:=⟨_,rfl⟩;have xu:List.replicate (32 - 4 * j) (Value.int .u8 0)=[.int .u8 0,.int .u8 0,.int .u8 0,.int .u8 0]++List.replicate (32 - 4 * (j+1)) (.int .u8 0):=by
      rw [show 32 - 4 * j=4+(32 - 4 * (j+1)) by omega,←List.replicate_append_replicate];rfl
     rw [xu] at hA;have PW:=Hh (oX wc.heap.size (4 * j) (32 - 4 * j) (32 - 4 * j) x 109 _ wr hA (by simp [aS,xj]) (by omega) (by unfold maxLen;omega) (Lr _))
     have xy:Arr (LU wr wc.heap.size (4 * j) x) wc.heap.size 109 (aS (pA (u.take (j+1)))++List.replicate (32 - 4 * (j+1)) (.int .u8 0)):=by
      have:=AD (x:=x) hA (o:=4 * j) (by rw [kK,xj])
      rw [xg,cF,Aj];exact this
     have HA:=Hh xy;have yc:(j:Int)<8:=by omega
     have yd:(Instr.sliceAt 109 (.pointer (some ⟨wc.heap.size,0,none⟩)) (some (Iz (4 * (j:Int)))) none none).run prog wr=.ok (.slice (some ⟨wc.heap.size,4 * j,none⟩) (32 - 4 * j) (32 - 4 * j)) wr:=PV 109 5 32 wc.heap.size (4 * j) (4 * (j:Int)) (by push_cast;rfl) (by omega) underlying109 sizeOf5 wr
     clear xy xu xj xg gj hx hA ho
     go_wp2_with (go_at_call 73;(with_reducible refine PW.o.mono ?_);rintro e w6 ⟨rfl,rfl⟩)
     go_roundw
     case rel=>exact ⟨j+1,by omega,rfl,HA.o,rO C (by omega)⟩
     case measure=>simp [intOf];omega
    ·obtain rfl:j=8:=by omega
     have xr:Arr wr wc.heap.size 109 (aS (pA u)):=by
      have:=hA;rw [Ak (by omega)] at this
      simpa using this
     have xi:(pA u).length=32:=wU xe;have xm:=xr.row;rw [kK,xi] at xm;have yb:=BY (P:=prog) wr 69 9 5 wc.heap.size 109 32 32 (pA u) xi xm underlying69 underlying5 underlying9;have HE:Hid ((⟨(pA u).toArray⟩:Bt)=⟨(rM L).toArray⟩):=Hh (by rw [xw.o])
     obtain ⟨OS,x6⟩:∃OS:Bt,OS=⟨(pA u).toArray⟩:=⟨_,rfl⟩;rw [←x6] at yb HE;clear x6 xm xr hA xi
     go_wp2
     go_ret
     exact ⟨by rw [HE.o];rfl,C⟩
end Go.Proofs.YtncdpanfefnjlaaGreatDoor