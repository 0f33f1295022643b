import Derived.Test.YtncdpanfefnjlaaGreatDoorJbdat
set_option linter.unusedVariables false
set_option linter.unusedSimpArgs false
set_option maxHeartbeats 3200000
set_option maxRecDepth 100000
namespace Go.Proofs.YtncdpanfefnjlaaGreatDoor
open Go.Proofs.Tryz
theorem yK (x:ND):fZ x<8:=by
 unfold fZ
 (repeat' split) <;> omega
theorem yL {d:Nat} {x:ND} (h:aC (d+1) x=true) (c:aP (d+1) x=true):gL x<18446744073709551616:=by
 obtain ⟨j,k,a,e⟩:=aX h;obtain ⟨b,f⟩:=cG c;have g:=gX a;have i:x.text.data.toList.length=x.text.size:=by rw [Ah];rfl
 unfold dD at b;rw [An,As,As] at b;unfold gL
 (repeat' split) <;> omega
def nD (d:Nat) (x:ND):Ub:=
 if x.kind=3 then x.text.data.toList
 else if x.kind=4 then x.items.flatMap (aU d)
 else if x.kind=5 then (List.zipWith (fun s y=>fT s++aU d y) x.names x.items).flatten
 else []
theorem dU (d:Nat) (x:ND):aU (d+1) x=cR (fZ x) (gL x)++nD d x:=rfl
theorem mG {a b:Bt} (h:a.data.toList=b.data.toList):a=b:=Cr (Cg.1 h)
theorem aAb {a b:Bt} {t c:Ub} (j:a.size≤65536) (i:b.size≤65536) (h:fT a++t=fT b++c):a=b∧t=c:=by
 unfold fT at h;rw [Aj,Aj] at h;obtain ⟨-,d,f⟩:=FF (by decide) (by decide) (by omega) (by omega) h
 obtain ⟨e,g⟩:=List.append_inj f (by rw [Ah,Ah];exact d)
 exact ⟨mG e,g⟩
theorem BG {W:ND→Ub}:∀ (d e:List ND) (t c:Ub),d.length=e.length→(∀x y t c,x ∈ d→y ∈ e→W x++t=W y++c→x=y∧t=c)→d.flatMap W++t=e.flatMap W++c→d=e∧t=c
 | [],[],t,c,_,_,h=>⟨rfl,h⟩
 | [],_::_,_,_,h,_,_=>by simp at h
 | _::_,[],_,_,h,_,_=>by simp at h
 | x::d,y::e,t,c,hl,hw,h=>by
  rw [Cl,Cl,Aj,Aj] at h;obtain ⟨rfl,j⟩:=hw x y _ _ (by simp) (by simp) h
  obtain ⟨rfl,i⟩:=BG d e t c (by simpa using hl) (fun a b u g k f=>hw a b u g (by simp [k]) (by simp [f])) j
  exact ⟨rfl,i⟩
theorem KD {W:ND→Ub}:∀ (ns f:List Bt) (d e:List ND) (t c:Ub),ns.length=d.length→f.length=e.length→d.length=e.length→(∀s,s ∈ ns→s.size≤65536)→(∀s,s ∈ f→s.size≤65536)→(∀x y t c,x ∈ d→y ∈ e→W x++t=W y++c→x=y∧t=c) →
 (List.zipWith (fun s y=>fT s++W y) ns d).flatten++t=(List.zipWith (fun s y=>fT s++W y) f e).flatten++c→ns=f∧d=e∧t=c
 | [],[],[],[],t,c,_,_,_,_,_,_,h=>⟨rfl,rfl,h⟩
 | n::ns,m::f,x::d,y::e,t,c,h1,h2,h3,hn,hm,hw,h=>by
  rw [Bh,Bh,Bv,Bv,Aj,Aj,Aj,Aj] at h;obtain ⟨rfl,o⟩:=aAb (hn n (by simp)) (hm m (by simp)) h
  obtain ⟨rfl,j⟩:=hw x y _ _ (by simp) (by simp) o
  obtain ⟨rfl,rfl,k⟩:=KD ns f d e t c (by simpa using h1) (by simpa using h2) (by simpa using h3) (fun s g=>hn s (by simp [g])) (fun s g=>hm s (by simp [g])) (fun a b u l p i=>hw a b u l (by simp [p]) (by simp [i])) j
  exact ⟨rfl,rfl,k⟩
 | [],_,_::_,_,_,_,h,_,_,_,_,_,_=>by simp at h
 | _::_,_,[],_,_,_,h,_,_,_,_,_,_=>by simp at h
 | _,[],_,_::_,_,_,_,h,_,_,_,_,_=>by simp at h
 | _,_::_,_,[],_,_,_,h,_,_,_,_,_=>by simp at h
 | [],_::_,[],_::_,_,_,_,_,h,_,_,_,_=>by simp at h
theorem dY {s:Bt} (h:aZ s=true):s.size≤65536:=by
 have a:=gX h;have b:s.data.toList.length=s.size:=by rw [Ah];rfl
 omega
theorem oO:∀ (d:Nat) (x y:ND) (t i:Ub),aC d x=true→aP d x=true→aC d y=true→aP d y=true→aU d x++t=aU d y++i→x=y∧t=i
 | 0,_,_,_,_,h,_,_,_,_=>by cases h
 | d+1,x,y,t,i,hx,nx,hy,ny,h=>by
  rw [dU,dU,Aj,Aj] at h;obtain ⟨g,c,e⟩:=FF (yK x) (yK y) (yL hx nx) (yL hy ny) h;obtain ⟨I,N,O,H⟩:=aX hx;obtain ⟨L,Q,ty,F⟩:=aX hy;obtain ⟨P,G⟩:=cG nx;obtain ⟨S,M⟩:=cG ny;have B:∀a b u o,a ∈ x.items→b ∈ y.items→aU d a++u=aU d b++o→a=b∧u=o:=fun a b u o E D=>oO d a b u o (I a E) (G a E) (L b D) (M b D)
  have A:=iF hx;have z:=iF hy;obtain ⟨k,b,n,R,ns,its⟩:=x;obtain ⟨T,C,n',J,p,f⟩:=y;unfold nd0 at A z;simp only [ND.mk.injEq,ND.kind,ND.bool,ND.num,ND.text,ND.names,ND.items] at *;unfold fZ at g;unfold gL at c;unfold nD at e;simp only [ND.kind,ND.bool,ND.num,ND.text,ND.names,ND.items] at g c e;rcases A with ⟨rfl,rfl,rfl,rfl,rfl,rfl⟩ | ⟨rfl,-,rfl,rfl,rfl,rfl⟩ | ⟨rfl,rfl,-,rfl,rfl,rfl⟩ | ⟨rfl,rfl,rfl,-,rfl,rfl⟩ | ⟨rfl,rfl,rfl,rfl,rfl,-⟩ | ⟨⟨rfl,rfl,rfl,rfl,-,-⟩,r⟩ <;>
  rcases z with ⟨rfl,rfl,rfl,rfl,rfl,rfl⟩ | ⟨rfl,-,rfl,rfl,rfl,rfl⟩ | ⟨rfl,rfl,-,rfl,rfl,rfl⟩ | ⟨rfl,rfl,rfl,-,rfl,rfl⟩ | ⟨rfl,rfl,rfl,rfl,rfl,-⟩ | ⟨⟨rfl,rfl,rfl,rfl,-,-⟩,w⟩ <;>
  simp at g c e <;> first
   | (exfalso;by_cases m:n'<0 <;> simp [m] at g;done)
   | (exfalso;by_cases m:n<0 <;> simp [m] at g;done)
   | (exfalso;revert c;cases C <;> simp;done)
   | (exfalso;revert c;cases b <;> simp;done)
   | (exact ⟨⟨rfl,rfl,rfl,rfl,rfl,rfl⟩,e⟩)
   | (refine ⟨⟨rfl,?_,rfl,rfl,rfl,rfl⟩,e⟩;revert c;cases b <;> cases C <;> simp)
   | (refine ⟨⟨rfl,rfl,?_,rfl,rfl,rfl⟩,e⟩;by_cases m:n<0 <;> by_cases v:n'<0 <;> simp [m,v] at g c <;> omega)
   | (obtain ⟨l,j⟩:=List.append_inj e (by rw [Ah,Ah];exact c);exact ⟨⟨rfl,rfl,rfl,mG l,rfl,rfl⟩,j⟩)
   | (obtain ⟨l,j⟩:=BG its f t i c B e;exact ⟨⟨rfl,rfl,rfl,rfl,rfl,l⟩,j⟩)
   | (obtain ⟨l,j,K⟩:=KD ns p its f t i r w c (fun s q=>dY (H s q)) (fun s q=>dY (F s q)) B e;exact ⟨⟨rfl,rfl,rfl,rfl,l,j⟩,K⟩)
theorem PB {d:Nat} {x y:ND} (b:eS d x=true) (a:eS d y=true) (h:aU d x=aU d y):x=y:=
 (oO d x y [] [] (eF b) (fI b) (eF a) (fI a) (by rw [h])).1
theorem rW {m:Nat} (n:Nat):(cR m n).length≤9:=by rw [eH];have:=nB n;omega
theorem TG (s:Bt):(fT s).length≤6 * s.size+8:=by
 have a:s.data.toList.length=s.size:=by rw [Ah];rfl
 unfold fT;rw [Lg,eH,a];unfold eC
 (repeat' split) <;> omega
theorem vM {W:ND→Ub} {c:ND→Nat}:∀ (its:List ND),(∀y,y ∈ its→(W y).length≤c y)→(its.flatMap W).length≤(its.map fun y=>c y+1).sum
 | [],_=>Lr _
 | y::ys,h=>by
  have d:=vM ys (fun z a=>h z (by simp [a]))
  have b:=h y (by simp)
  rw [Cl,Lg,Bq,Cy];omega
theorem JZ {W:ND→Ub} {c:ND→Nat}:∀ (ns:List Bt) (its:List ND),(∀y,y ∈ its→(W y).length≤c y)→(List.zipWith (fun s y=>fT s++W y) ns its).flatten.length≤(ns.map fun s=>6 * s.size+8).sum+(its.map fun y=>c y+1).sum
 | [],_,_=>by simp
 | _::_,[],_=>by simp
 | s::ss,y::ys,h=>by
  have b:=JZ ss ys (fun z a=>h z (by simp [a]))
  have d:=TG s;have e:=h y (by simp)
  rw [Bh,Bv,Lg,Lg,Bq,Cy,Bq,Cy];omega
theorem oN:∀ (d:Nat) (x:ND),aC d x=true→(aU d x).length≤bK d x
 | 0,_,h=>by cases h
 | d+1,x,h=>by
  obtain ⟨c,l,e,b⟩:=aX h;have a:∀y,y ∈ x.items→(aU d y).length≤bK d y:=fun y f=>oN d y (c y f)
  have g:x.text.data.toList.length=x.text.size:=by rw [Ah];rfl
  have j:=rW (m:=fZ x) (gL x);have i:=vM x.items a;have k:=JZ (W:=aU d) x.names x.items a;rw [fR,dU,Lg];unfold nD
  split
  ·omega
  ·split
   ·omega
   ·split
    ·omega
    ·simp;omega
end Go.Proofs.YtncdpanfefnjlaaGreatDoor
namespace Go.Proofs.YtncdpanfefnjlaaGreatDoor
open Go.Proofs.Tryz
open Go Go.ChangeShapes Go.WideShapes Go.ChangeAt Go.RowKit
def bC (l:Ub):Bt:=⟨l.toArray⟩
theorem gR (l:Ub):(bC l).data.toList=l:=by simp [bC]
theorem bY (l:Ub):(bC l).size=l.length:=by simp [bC,ByteArray.size]
theorem pS (s:Bt):bC s.data.toList=s:=by cases s;simp [bC]
theorem kW (a b:Ub):bC a++bC b=bC (a++b):=by
 apply mG
 rw [Cp,Dw,gR,gR,gR]
theorem qK (n:Nat):∀k j,j<k→(bR n k).take (j+1)=(bR n k).take j++[UInt8.ofNat (n / 256 ^ (k - 1 - j))]
 | 0,j,h=>by omega
 | k+1,0,_=>by rw [bR];rfl
 | k+1,j+1,h=>by
  have:=qK n k j (by omega)
  rw [bR,Cx,Cx,this,show k+1 - 1 - (j+1)=k - 1 - j by omega]
  rfl
theorem JA (n i:Nat):(n:Int) / 2 ^ (8 * i) % 256=((UInt8.ofNat (n / 256 ^ i)).toNat:Int):=by
 have h:(2:Int) ^ (8 * i)=((256 ^ i:Nat):Int):=by
  rw [show (256:Nat)=2 ^ 8 from rfl,←Nat.pow_mul,Int.natCast_pow];rfl
 rw [h,Bb,←Int.natCast_ediv]
 rfl
theorem aBt (n:Nat) (k:Nat) (w:World) (hk:k≤8) (G:n<18446744073709551616):Calls prog 122 #[.int .u64 (n:Int),Iz (k:Int)] w fun e w'=>e=.returned (.string (bC (bR n k)))∧Below w.heap.size w w':=by
 obtain ⟨Q,p,D,s,E⟩:=Ea nA;have m:=underlying69;have t:=underlying5;have l:=underlying9;have B:=Hh p;have R:(k:Int)≤8:=by omega
 have V:IntKind.i64.wrap ((k:Int) - 1)=(k:Int) - 1:=Cc _ (by omega)
 obtain ⟨N,C⟩:∃N:Int,N=(n:Int):=⟨_,rfl⟩;rw [←C];have O:=Hh (Ai C G);clear C G p
 go_enter func122,ntmps122
 go_upto_region 3 with fail
 go_loopw [5,6] (fun v i wr=>∃ (j:Nat),i=Iz ((k:Int) - 1 - (j:Int))∧j≤k∧wr.ownsRow w.heap.size 5 1 v j (aS ((bR n k).take j))∧Below w.heap.size w wr) (fun _ i _=>(intOf i+1).toNat)
 case atStart=>exact ⟨0,by simp,Av _,Dk w _ _ _,Br _ _⟩
 case round=>
  obtain ⟨j,rfl,Z,b,H⟩:=hrel;have a:=Hh (Ai b H);clear b H
  by_cases z:j<k
  ·have g:(0:Int)≤(k:Int) - 1 - (j:Int):=by omega
   obtain ⟨i,A⟩:∃i:Nat,(i:Int)=(k:Int) - 1 - (j:Int):=⟨k - 1 - j,by omega⟩
   have U:(i:Int)≤7:=by omega
   have S:(0:Int)≤(i:Int):=by omega
   rw [←A] at g ⊢;have L:=Hh A;clear A g;obtain ⟨c,f⟩:∃c,c=UInt8.ofNat (n / 256 ^ i):=⟨_,rfl⟩;have Y:N / 2 ^ (8 * i) % 256=(c.toNat:Int):=by rw [O.o.1,f];exact JA n i
   have X:=Hh f;have q:((bR n k).take j).length=j:=by rw [Bc,aQ];omega
   have T:=Hh q;clear f q
   go_wp2_with (refine Ay _ rfl (.tmp 13) (.tmp 20) 69 rfl w.heap.size 5 Q (.int .u8 0) 1 1 m B.o D s E rfl (by decide) _ j _ rfl (a.o.1.alloc (.cells #[.int .u8 (c.toNat:Int)] 5)) ⟨wr.heap.size,0,none⟩ 1 1 [.int .u8 (c.toNat:Int)] rfl rfl (cX wr #[.int .u8 (c.toNat:Int)] 5 [.int .u8 (c.toNat:Int)] rfl) (by intro u K;simp only [Bl,Bn,Dl] at K;rcases K with rfl;rfl) (by decide) (by unfold maxLen;omega) (by omega) (by have:=a.o.2.size;simp;omega) _ rfl ?_;intro W M J b d x I)
   have r:=iG (a.o.2.alloc a.o.2.size (.cells #[.int .u8 (c.toNat:Int)] 5)) (a.o.1.alloc (.cells #[.int .u8 (c.toNat:Int)] 5)) d (by have:=a.o.2.size;simp;omega)
   have F:Hid (J.ownsRow w.heap.size 5 1 (.slice (some ⟨W,0,none⟩) (j+1) M) (j+1) (aS ((bR n k).take (j+1)))∧Below w.heap.size w J):=Hh ⟨by
    rw [qK n k j z,cF,show k - 1 - j=i by have:=L.o;omega,←X.o]
    exact b,r⟩
   clear b d x r
   go_wp2
   go_roundw
   case rel=>exact ⟨j+1,by have:=L.o;exact Ad _ (by omega),by omega,F.o.1,F.o.2⟩
   case measure=>simp [intOf] <;> omega
  ·have h:j=k:=by omega
   have g:¬ (0:Int)≤(k:Int) - 1 - (j:Int):=by omega
   have y:=eA (P:=prog) wr 69 9 5 w.heap.size j _ ((bR n k).take j) a.o.1 m t l;rw [h,Ak (by rw [aQ];exact Lr _)] at y
   have HJ:=Hh h;clear h
   go_wp2
   go_ret
   exact ⟨rfl,a.o.2⟩
theorem iX:∀m v:Nat,m<8→v<32→bits BinOp.or IntKind.u8 ((m:Int) * 32) (v:Int)=((UInt8.ofNat (32 * m+v)).toNat:Int):=by
 have:∀ (m:Fin 8) (v:Fin 32),bits BinOp.or IntKind.u8 ((m.1:Int) * 32) (v.1:Int)=((UInt8.ofNat (32 * m.1+v.1)).toNat:Int):=by decide +kernel
 exact fun m v a b=>this ⟨m,a⟩ ⟨v,b⟩
theorem jU (m n:Nat) (w:World) (U:m<8) (Z:n<18446744073709551616):Calls prog 101 #[Iz (m:Int),.int .u64 (n:Int)] w fun e w'=>e=.returned (.string (bC (cR m n)))∧Below w.heap.size w w':=by
 have xb:(0:Int)≤(m:Int):=by omega
 have xa:(m:Int)<8:=by omega
 obtain ⟨N,Q⟩:∃N:Int,N=(n:Int):=⟨_,rfl⟩;rw [←Q];have HN:=Hh (Ai Q Z);have V:=Hh (fun k (hk:k≤8) A=>aBt n k A hk Z)
 rw [←Q] at V;have E:Hid (∀ (W:World) (b:Nat) {c:UInt8},W.heap[b]?=some (.cells #[.int .u8 (c.toNat:Int)] 5 (0,0))→(convert 69 9 (.slice (some ⟨b,0,none⟩) 1 1)).run prog W=.ok (.string (bC [c])) W):=Hh fun W b c h=>
  run_convert_bytes_back W _ _ 5 ⟨b,0,none⟩ 1 [c] underlying69 underlying5 underlying9 fun j hj=>(by
   obtain rfl:j=0:=by simpa using hj
   exact cT [Value.int .u8 (c.toNat:Int)] h rfl 0 _ rfl)
 have M:Hid (∀ (c:UInt8) k,k≤8→¬9223372036854775807<(bC [c]).size+(bC (bR n k)).size):=Hh fun c k hk=>by rw [bY,bY,aQ];simp;omega
 clear Z
 by_cases x:n<24
 ·have Y:N<24:=by omega
  obtain ⟨c,i⟩:∃c,c=UInt8.ofNat (32 * m+n):=⟨_,rfl⟩;have O:bits BinOp.or IntKind.u8 ((m:Int) * 32) (N % 256)=(c.toNat:Int):=by rw [i,show N % 256=(n:Int) by omega];exact iX m n U (by omega)
  have y:Hid (bC (cR m n)=bC [c]):=Hh (by rw [cR,i,show eW n=n by unfold eW;exact Am x,show eC n=0 by unfold eC;exact Am x];rfl)
  have p:=Hn w (.cells #[.int .u8 (c.toNat:Int)] 5);have z:=E.o _ _ p;clear x i Q p
  go_enter func101,ntmps101
  go_wp2
  go_ret
  exact ⟨by rw [y.o];rfl,(Br _ _).alloc (Lr _) _⟩
 ·have Y:¬N<24:=by omega
  by_cases s:n<256
  ·have R:N<256:=by omega
   obtain ⟨c,i⟩:∃c,c=UInt8.ofNat (32 * m+24):=⟨_,rfl⟩;have S:=Hh i;have C:Hid (bits BinOp.or IntKind.u8 ((m:Int) * 32) 24=(c.toNat:Int)):=Hh (by rw [i];exact iX m 24 U (by decide))
   clear i;have y:Hid (bC [c]++bC (bR n 1)=bC (cR m n)):=Hh (by
    rw [kW,S.o,cR,show eW n=24 by unfold eW;rw [Ae x,Am s],show eC n=1 by unfold eC;rw [Ae x,Am s]]
    rfl)
   have O:bits BinOp.or IntKind.u8 ((m:Int) * 32) 24=(c.toNat:Int):=C.o;clear Q
   go_enter func101,ntmps101
   go_upto_region 5 with fail
   have g:Below w.heap.size w w.drew:=(Br _ _).drew;refine aI (fun w'=>True) [] (.take 0 (.take 1 (.take 4 (eP.join true (.ask 2 false (.ask 3 false (.ask 5 false .stop .stop) (.ask 5 false (.ask 3 false .stop .stop) .stop)) (.ask 5 false (.ask 2 false (.ask 3 false .stop .stop) .stop) .stop)) (.ask 6 false (.ask 7 false .stop .stop) .stop))))) (by kernel_rfl) (by kernel_rfl) (fun _ d _ _ _ h=>by cases d <;> exact h) trivial ?_
   generalize w.drew=r at g ⊢
   iterate 3 (refine aF _ ?_ rfl rfl ?_ (fun K L=>?_);rotate_left;(intro w0;go_simp;(try rfl));(go_simp;refine L _ ?_;clear L K))
   have l:=Hh (fun A=>V.o 1 (by decide) A)
   rw [show ((1:Nat):Int)=1 from rfl] at l
   refine dW [23,24,26] (fun I A=>∃t,I=[t,.string (bC [c]),.string (bC (bR n 1))]∧Below w.heap.size w A) ?_ ?_
   ·refine aB _ rfl ?_ ?_
    rotate_left
    ·go_wp2_with fail;refine Seg.mk ?_
     have p:=Hn r (.cells #[.int .u8 (c.toNat:Int)] 5);have f:=g.alloc (o:=.cells #[.int .u8 (c.toNat:Int)] 5) g.size;have u:r.heap.size<(r.alloc (.cells #[.int .u8 (c.toNat:Int)] 5)).heap.size:=by simp
     generalize r.alloc (.cells #[.int .u8 (c.toNat:Int)] 5)=B at p f u ⊢;have z:=E.o B _ p;refine aB _ rfl ?_ ?_;rotate_left
     ·go_wp2_with fail;refine Seg.mk ?_
      refine aB _ rfl trivial ?_;go_wp2_with (go_at_call 122;(with_reducible refine (l.o _).mono ?_);rintro e q ⟨rfl,a⟩);refine Seg.mk ?_;exact aN [.slice (some ⟨r.heap.size,0,none⟩) 1 1,.string (bC [c]),.string (bC (bR n 1))] (by first | exact ⟨_,rfl,f.trans (a.mono f.size)⟩ | exact ⟨⟨_,rfl⟩,f.trans (a.mono f.size)⟩) rfl
     ·refine aB _ rfl trivial ?_;go_wp2_with (go_at_call 122;(with_reducible refine (l.o _).mono ?_);rintro e q ⟨rfl,a⟩);refine Seg.mk ?_
      have G:=E.o q _ ((a.block _ u).trans p);refine aB _ rfl trivial ?_;go_wp2_with fail;refine Seg.mk ?_;exact aN [.slice (some ⟨r.heap.size,0,none⟩) 1 1,.string (bC [c]),.string (bC (bR n 1))] (by first | exact ⟨_,rfl,f.trans (a.mono f.size)⟩ | exact ⟨⟨_,rfl⟩,f.trans (a.mono f.size)⟩) rfl
    ·refine aB _ rfl trivial ?_;go_wp2_with (go_at_call 122;(with_reducible refine (l.o _).mono ?_);rintro e q ⟨rfl,a⟩);refine Seg.mk ?_
     have H:=g.trans (a.mono g.size);refine aB _ rfl trivial ?_;go_wp2_with fail;refine Seg.mk ?_;have p:=Hn q (.cells #[.int .u8 (c.toNat:Int)] 5);have f:=H.alloc (o:=.cells #[.int .u8 (c.toNat:Int)] 5) H.size;generalize q.alloc (.cells #[.int .u8 (c.toNat:Int)] 5)=B at p f ⊢;have z:=E.o B _ p;refine aB _ rfl trivial ?_;go_wp2_with fail;refine Seg.mk ?_;exact aN [.slice (some ⟨q.heap.size,0,none⟩) 1 1,.string (bC [c]),.string (bC (bR n 1))] (by first | exact ⟨_,rfl,f⟩ | exact ⟨⟨_,rfl⟩,f⟩) rfl
   ·rintro I w' ⟨t,rfl,v⟩
    simp only [gJ,Act.put,Aq,Az,Ba];have J:=M.o c 1 (by decide)
    have D:=Hh v;clear v;refine aB _ rfl trivial ?_;go_wp2_with fail;refine Seg.mk ?_;refine bQ _ rfl trivial ?_
    go_wp2
    go_ret
    exact ⟨by rw [y.o];rfl,D.o⟩
  ·have R:¬N<256:=by omega
   by_cases F:n<65536
   ·have T:N<65536:=by omega
    obtain ⟨c,i⟩:∃c,c=UInt8.ofNat (32 * m+25):=⟨_,rfl⟩;have S:=Hh i;have C:Hid (bits BinOp.or IntKind.u8 ((m:Int) * 32) 25=(c.toNat:Int)):=Hh (by rw [i];exact iX m 25 U (by decide))
    clear i;have y:Hid (bC [c]++bC (bR n 2)=bC (cR m n)):=Hh (by
     rw [kW,S.o,cR,show eW n=25 by unfold eW;rw [Ae x,Ae s,Am F],show eC n=2 by unfold eC;rw [Ae x,Ae s,Am F]]
     rfl)
    have O:bits BinOp.or IntKind.u8 ((m:Int) * 32) 25=(c.toNat:Int):=C.o;clear Q
    go_enter func101,ntmps101
    go_upto_region 7 with fail
    have g:Below w.heap.size w w.drew:=(Br _ _).drew;refine aI (fun w'=>True) [] (.take 0 (.take 1 (.take 4 (eP.join true (.ask 2 false (.ask 3 false (.ask 5 false .stop .stop) (.ask 5 false (.ask 3 false .stop .stop) .stop)) (.ask 5 false (.ask 2 false (.ask 3 false .stop .stop) .stop) .stop)) (.ask 6 false (.ask 7 false .stop .stop) .stop))))) (by kernel_rfl) (by kernel_rfl) (fun _ d _ _ _ h=>by cases d <;> exact h) trivial ?_
    generalize w.drew=r at g ⊢
    iterate 3 (refine aF _ ?_ rfl rfl ?_ (fun K L=>?_);rotate_left;(intro w0;go_simp;(try rfl));(go_simp;refine L _ ?_;clear L K))
    have l:=Hh (fun A=>V.o 2 (by decide) A)
    rw [show ((2:Nat):Int)=2 from rfl] at l
    refine dW [33,34,36] (fun I A=>∃t,I=[t,.string (bC [c]),.string (bC (bR n 2))]∧Below w.heap.size w A) ?_ ?_
    ·refine aB _ rfl ?_ ?_
     rotate_left
     ·go_wp2_with fail;refine Seg.mk ?_
      have p:=Hn r (.cells #[.int .u8 (c.toNat:Int)] 5);have f:=g.alloc (o:=.cells #[.int .u8 (c.toNat:Int)] 5) g.size;have u:r.heap.size<(r.alloc (.cells #[.int .u8 (c.toNat:Int)] 5)).heap.size:=by simp
      generalize r.alloc (.cells #[.int .u8 (c.toNat:Int)] 5)=B at p f u ⊢;have z:=E.o B _ p;refine aB _ rfl ?_ ?_;rotate_left
      ·go_wp2_with fail;refine Seg.mk ?_
       refine aB _ rfl trivial ?_;go_wp2_with (go_at_call 122;(with_reducible refine (l.o _).mono ?_);rintro e q ⟨rfl,a⟩);refine Seg.mk ?_;exact aN [.slice (some ⟨r.heap.size,0,none⟩) 1 1,.string (bC [c]),.string (bC (bR n 2))] (by first | exact ⟨_,rfl,f.trans (a.mono f.size)⟩ | exact ⟨⟨_,rfl⟩,f.trans (a.mono f.size)⟩) rfl
      ·refine aB _ rfl trivial ?_;go_wp2_with (go_at_call 122;(with_reducible refine (l.o _).mono ?_);rintro e q ⟨rfl,a⟩);refine Seg.mk ?_
       have G:=E.o q _ ((a.block _ u).trans p);refine aB _ rfl trivial ?_;go_wp2_with fail;refine Seg.mk ?_;exact aN [.slice (some ⟨r.heap.size,0,none⟩) 1 1,.string (bC [c]),.string (bC (bR n 2))] (by first | exact ⟨_,rfl,f.trans (a.mono f.size)⟩ | exact ⟨⟨_,rfl⟩,f.trans (a.mono f.size)⟩) rfl
     ·refine aB _ rfl trivial ?_;go_wp2_with (go_at_call 122;(with_reducible refine (l.o _).mono ?_);rintro e q ⟨rfl,a⟩);refine Seg.mk ?_
      have H:=g.trans (a.mono g.size);refine aB _ rfl trivial ?_;go_wp2_with fail;refine Seg.mk ?_;have p:=Hn q (.cells #[.int .u8 (c.toNat:Int)] 5);have f:=H.alloc (o:=.cells #[.int .u8 (c.toNat:Int)] 5) H.size;generalize q.alloc (.cells #[.int .u8 (c.toNat:Int)] 5)=B at p f ⊢;have z:=E.o B _ p;refine aB _ rfl trivial ?_;go_wp2_with fail;refine Seg.mk ?_;exact aN [.slice (some ⟨q.heap.size,0,none⟩) 1 1,.string (bC [c]),.string (bC (bR n 2))] (by first | exact ⟨_,rfl,f⟩ | exact ⟨⟨_,rfl⟩,f⟩) rfl
    ·rintro I w' ⟨t,rfl,v⟩
     simp only [gJ,Act.put,Aq,Az,Ba];have J:=M.o c 2 (by decide)
     have D:=Hh v;clear v;refine aB _ rfl trivial ?_;go_wp2_with fail;refine Seg.mk ?_;refine bQ _ rfl trivial ?_
     go_wp2
     go_ret
     exact ⟨by rw [y.o];rfl,D.o⟩
   ·have T:¬N<65536:=by omega
    by_cases P:n<4294967296
    ·have X:N<4294967296:=by omega
     obtain ⟨c,i⟩:∃c,c=UInt8.ofNat (32 * m+26):=⟨_,rfl⟩;have S:=Hh i;have C:Hid (bits BinOp.or IntKind.u8 ((m:Int) * 32) 26=(c.toNat:Int)):=Hh (by rw [i];exact iX m 26 U (by decide))
     clear i;have y:Hid (bC [c]++bC (bR n 4)=bC (cR m n)):=Hh (by
      rw [kW,S.o,cR,show eW n=26 by unfold eW;rw [Ae x,Ae s,Ae F,Am P],show eC n=4 by unfold eC;rw [Ae x,Ae s,Ae F,Am P]]
      rfl)
     have O:bits BinOp.or IntKind.u8 ((m:Int) * 32) 26=(c.toNat:Int):=C.o;clear Q
     go_enter func101,ntmps101
     go_upto_region 9 with fail
     have g:Below w.heap.size w w.drew:=(Br _ _).drew;refine aI (fun w'=>True) [] (.take 0 (.take 1 (.take 4 (eP.join true (.ask 2 false (.ask 3 false (.ask 5 false .stop .stop) (.ask 5 false (.ask 3 false .stop .stop) .stop)) (.ask 5 false (.ask 2 false (.ask 3 false .stop .stop) .stop) .stop)) (.ask 6 false (.ask 7 false .stop .stop) .stop))))) (by kernel_rfl) (by kernel_rfl) (fun _ d _ _ _ h=>by cases d <;> exact h) trivial ?_
     generalize w.drew=r at g ⊢
     iterate 3 (refine aF _ ?_ rfl rfl ?_ (fun K L=>?_);rotate_left;(intro w0;go_simp;(try rfl));(go_simp;refine L _ ?_;clear L K))
     have l:=Hh (fun A=>V.o 4 (by decide) A)
     rw [show ((4:Nat):Int)=4 from rfl] at l
     refine dW [43,44,46] (fun I A=>∃t,I=[t,.string (bC [c]),.string (bC (bR n 4))]∧Below w.heap.size w A) ?_ ?_
     ·refine aB _ rfl ?_ ?_
      rotate_left
      ·go_wp2_with fail;refine Seg.mk ?_
       have p:=Hn r (.cells #[.int .u8 (c.toNat:Int)] 5);have f:=g.alloc (o:=.cells #[.int .u8 (c.toNat:Int)] 5) g.size;have u:r.heap.size<(r.alloc (.cells #[.int .u8 (c.toNat:Int)] 5)).heap.size:=by simp
       generalize r.alloc (.cells #[.int .u8 (c.toNat:Int)] 5)=B at p f u ⊢;have z:=E.o B _ p;refine aB _ rfl ?_ ?_;rotate_left
       ·go_wp2_with fail;refine Seg.mk ?_
        refine aB _ rfl trivial ?_;go_wp2_with (go_at_call 122;(with_reducible refine (l.o _).mono ?_);rintro e q ⟨rfl,a⟩);refine Seg.mk ?_;exact aN [.slice (some ⟨r.heap.size,0,none⟩) 1 1,.string (bC [c]),.string (bC (bR n 4))] (by first | exact ⟨_,rfl,f.trans (a.mono f.size)⟩ | exact ⟨⟨_,rfl⟩,f.trans (a.mono f.size)⟩) rfl
       ·refine aB _ rfl trivial ?_;go_wp2_with (go_at_call 122;(with_reducible refine (l.o _).mono ?_);rintro e q ⟨rfl,a⟩);refine Seg.mk ?_
        have G:=E.o q _ ((a.block _ u).trans p);refine aB _ rfl trivial ?_;go_wp2_with fail;refine Seg.mk ?_;exact aN [.slice (some ⟨r.heap.size,0,none⟩) 1 1,.string (bC [c]),.string (bC (bR n 4))] (by first | exact ⟨_,rfl,f.trans (a.mono f.size)⟩ | exact ⟨⟨_,rfl⟩,f.trans (a.mono f.size)⟩) rfl
      ·refine aB _ rfl trivial ?_;go_wp2_with (go_at_call 122;(with_reducible refine (l.o _).mono ?_);rintro e q ⟨rfl,a⟩);refine Seg.mk ?_
       have H:=g.trans (a.mono g.size);refine aB _ rfl trivial ?_;go_wp2_with fail;refine Seg.mk ?_;have p:=Hn q (.cells #[.int .u8 (c.toNat:Int)] 5);have f:=H.alloc (o:=.cells #[.int .u8 (c.toNat:Int)] 5) H.size;generalize q.alloc (.cells #[.int .u8 (c.toNat:Int)] 5)=B at p f ⊢;have z:=E.o B _ p;refine aB _ rfl trivial ?_;go_wp2_with fail;refine Seg.mk ?_;exact aN [.slice (some ⟨q.heap.size,0,none⟩) 1 1,.string (bC [c]),.string (bC (bR n 4))] (by first | exact ⟨_,rfl,f⟩ | exact ⟨⟨_,rfl⟩,f⟩) rfl
     ·rintro I w' ⟨t,rfl,v⟩
      simp only [gJ,Act.put,Aq,Az,Ba];have J:=M.o c 4 (by decide)
      have D:=Hh v;clear v;refine aB _ rfl trivial ?_;go_wp2_with fail;refine Seg.mk ?_;refine bQ _ rfl trivial ?_
      go_wp2
      go_ret
      exact ⟨by rw [y.o];rfl,D.o⟩
    ·have X:¬N<4294967296:=by omega
     obtain ⟨c,i⟩:∃c,c=UInt8.ofNat (32 * m+27):=⟨_,rfl⟩;have S:=Hh i;have C:Hid (bits BinOp.or IntKind.u8 ((m:Int) * 32) 27=(c.toNat:Int)):=Hh (by rw [i];exact iX m 27 U (by decide))
     clear i;have y:Hid (bC [c]++bC (bR n 8)=bC (cR m n)):=Hh (by
      rw [kW,S.o,cR,show eW n=27 by unfold eW;rw [Ae x,Ae s,Ae F,Ae P],show eC n=8 by unfold eC;rw [Ae x,Ae s,Ae F,Ae P]]
      rfl)
     have O:bits BinOp.or IntKind.u8 ((m:Int) * 32) 27=(c.toNat:Int):=C.o;clear Q
     go_enter func101,ntmps101
     go_upto_region 10 with fail
     have g:Below w.heap.size w w.drew:=(Br _ _).drew;refine aI (fun w'=>True) [] (.take 0 (.take 1 (.take 4 (eP.join true (.ask 2 false (.ask 3 false (.ask 5 false .stop .stop) (.ask 5 false (.ask 3 false .stop .stop) .stop)) (.ask 5 false (.ask 2 false (.ask 3 false .stop .stop) .stop) .stop)) (.ask 6 false (.ask 7 false .stop .stop) .stop))))) (by kernel_rfl) (by kernel_rfl) (fun _ d _ _ _ h=>by cases d <;> exact h) trivial ?_
     generalize w.drew=r at g ⊢
     iterate 3 (refine aF _ ?_ rfl rfl ?_ (fun K L=>?_);rotate_left;(intro w0;go_simp;(try rfl));(go_simp;refine L _ ?_;clear L K))
     have l:=Hh (fun A=>V.o 8 (by decide) A)
     rw [show ((8:Nat):Int)=8 from rfl] at l
     refine dW [50,51,53] (fun I A=>∃t,I=[t,.string (bC [c]),.string (bC (bR n 8))]∧Below w.heap.size w A) ?_ ?_
     ·refine aB _ rfl ?_ ?_
      rotate_left
      ·go_wp2_with fail;refine Seg.mk ?_
       have p:=Hn r (.cells #[.int .u8 (c.toNat:Int)] 5);have f:=g.alloc (o:=.cells #[.int .u8 (c.toNat:Int)] 5) g.size;have u:r.heap.size<(r.alloc (.cells #[.int .u8 (c.toNat:Int)] 5)).heap.size:=by simp
       generalize r.alloc (.cells #[.int .u8 (c.toNat:Int)] 5)=B at p f u ⊢;have z:=E.o B _ p;refine aB _ rfl ?_ ?_;rotate_left
       ·go_wp2_with fail;refine Seg.mk ?_
        refine aB _ rfl trivial ?_;go_wp2_with (go_at_call 122;(with_reducible refine (l.o _).mono ?_);rintro e q ⟨rfl,a⟩);refine Seg.mk ?_;exact aN [.slice (some ⟨r.heap.size,0,none⟩) 1 1,.string (bC [c]),.string (bC (bR n 8))] (by first | exact ⟨_,rfl,f.trans (a.mono f.size)⟩ | exact ⟨⟨_,rfl⟩,f.trans (a.mono f.size)⟩) rfl
       ·refine aB _ rfl trivial ?_;go_wp2_with (go_at_call 122;(with_reducible refine (l.o _).mono ?_);rintro e q ⟨rfl,a⟩);refine Seg.mk ?_
        have G:=E.o q _ ((a.block _ u).trans p);refine aB _ rfl trivial ?_;go_wp2_with fail;refine Seg.mk ?_;exact aN [.slice (some ⟨r.heap.size,0,none⟩) 1 1,.string (bC [c]),.string (bC (bR n 8))] (by first | exact ⟨_,rfl,f.trans (a.mono f.size)⟩ | exact ⟨⟨_,rfl⟩,f.trans (a.mono f.size)⟩) rfl
      ·refine aB _ rfl trivial ?_;go_wp2_with (go_at_call 122;(with_reducible refine (l.o _).mono ?_);rintro e q ⟨rfl,a⟩);refine Seg.mk ?_
       have H:=g.trans (a.mono g.size);refine aB _ rfl trivial ?_;go_wp2_with fail;refine Seg.mk ?_;have p:=Hn q (.cells #[.int .u8 (c.toNat:Int)] 5);have f:=H.alloc (o:=.cells #[.int .u8 (c.toNat:Int)] 5) H.size;generalize q.alloc (.cells #[.int .u8 (c.toNat:Int)] 5)=B at p f ⊢;have z:=E.o B _ p;refine aB _ rfl trivial ?_;go_wp2_with fail;refine Seg.mk ?_;exact aN [.slice (some ⟨q.heap.size,0,none⟩) 1 1,.string (bC [c]),.string (bC (bR n 8))] (by first | exact ⟨_,rfl,f⟩ | exact ⟨⟨_,rfl⟩,f⟩) rfl
     ·rintro I w' ⟨t,rfl,v⟩
      simp only [gJ,Act.put,Aq,Az,Ba];have J:=M.o c 8 (by decide)
      have D:=Hh v;clear v;refine aB _ rfl trivial ?_;go_wp2_with fail;refine Seg.mk ?_;refine bQ _ rfl trivial ?_
      go_wp2
      go_ret
      exact ⟨by rw [y.o];rfl,D.o⟩
end Go.Proofs.YtncdpanfefnjlaaGreatDoor
namespace Go.Proofs.YtncdpanfefnjlaaGreatDoor
open Go.Proofs.Tryz
def cU (z:Int):Nat:=(z % 18446744073709551616).toNat
def gS (z:Int):Nat × Nat:=if -32≤z∧z<128 then (cU z % 256,0) else if 0<z then (if z<256 then (204,1) else if z<65536 then (205,2) else if z<4294967296 then (206,4) else (207,8)) else if -128≤z then (208,1) else if -32768≤z then (209,2) else if -2147483648≤z then (210,4) else (211,8)
def gU (n:Nat):Nat × Nat:=if n<32 then (160+n,0) else if n<256 then (217,1) else if n<65536 then (218,2) else (219,4)
def oG (n:Nat):Nat × Nat:=if n<16 then (144+n,0) else (220,2)
def kR (n:Nat):Nat × Nat:=if n<16 then (128+n,0) else (222,2)
def cH (h:Nat × Nat) (v:Nat):Ub:=UInt8.ofNat h.1::bR v h.2
def pHd (x:ND):Nat × Nat:=if x.kind=1 then (if x.bool then (195,0) else (194,0)) else if x.kind=2 then gS x.num else if x.kind=3 then gU x.text.size else if x.kind=4 then oG x.items.length else if x.kind=5 then kR x.items.length else (192,0)
def lD (x:ND):Nat:=if x.kind=2 then cU x.num else if x.kind=3 then x.text.size else if x.kind=4 then x.items.length else if x.kind=5 then x.items.length else 0
def iC (x:ND):Int:=if x.kind=1 then (if x.bool then 1 else 0) else if x.kind=2 then x.num else if x.kind=3 then x.text.size else if x.kind=4 then x.items.length else if x.kind=5 then x.items.length else 0
def mP (c:Nat):Int:=if c<128 then 2 else if c<144 then 5 else if c<160 then 4 else if c<192 then 3 else if c=192 then 0 else if c<196 then 1 else if c<212 then 2 else if c<220 then 3 else if c=220 then 4 else if c=222 then 5 else 2
def eX (c:Nat):Nat:=if c=204∨c=208∨c=217 then 1 else if c=205∨c=209∨c=218∨c=220∨c=222 then 2 else if c=206∨c=210∨c=219 then 4 else if c=207∨c=211 then 8 else 0
def fB (c v:Nat):Int:=if c<128 then c else if c<144 then c - 128 else if c<160 then c - 144 else if c<192 then c - 160 else if c=195 then 1 else if c<208 then v else if c=208 then v - 256 else if c=209 then v - 65536 else if c=210 then v - 4294967296 else if c=211 then v - 18446744073709551616 else if c<224 then v else c - 256
theorem VB:∀c:Nat,c<256→(c<128→mP c=2∧eX c=0∧fB c 0=c)∧(224≤c→mP c=2∧eX c=0∧fB c 0=(c:Int) - 256)∧(160≤c→c<192→mP c=3∧eX c=0∧fB c 0=(c:Int) - 160)∧(144≤c→c<160→mP c=4∧eX c=0∧fB c 0=(c:Int) - 144)∧(128≤c→c<144→mP c=5∧eX c=0∧fB c 0=(c:Int) - 128):=by
 have:∀c:Fin 256,(c.1<128→mP c.1=2∧eX c.1=0∧fB c.1 0=c.1)∧(224≤c.1→mP c.1=2∧eX c.1=0∧fB c.1 0=(c.1:Int) - 256)∧(160≤c.1→c.1<192→mP c.1=3∧eX c.1=0∧fB c.1 0=(c.1:Int) - 160)∧(144≤c.1→c.1<160→mP c.1=4∧eX c.1=0∧fB c.1 0=(c.1:Int) - 144)∧(128≤c.1→c.1<144→mP c.1=5∧eX c.1=0∧fB c.1 0=(c.1:Int) - 128):=by decide +kernel
 exact fun c h=>this ⟨c,h⟩
theorem aJq (z:Int) (i:-9223372036854775808≤z) (j:z≤9223372036854775807):(gS z).1<256∧mP (gS z).1=2∧eX (gS z).1=(gS z).2∧fB (gS z).1 (cU z % 256 ^ (gS z).2)=z:=by
 unfold gS
 by_cases a:-32≤z∧z<128
 ·rw [Am a]
  dsimp only;have b:cU z % 256<128∧(cU z % 256:Nat)=z∨224≤cU z % 256∧cU z % 256<256∧(cU z % 256:Nat)=z+256:=by unfold cU;omega
  generalize cU z % 256=c at b ⊢;obtain ⟨g,f,-⟩:=VB c (by omega)
  rw [Nat.pow_zero,Nat.mod_one];rcases b with b | b
  ·obtain ⟨d,e,h⟩:=g b.1
   exact ⟨by omega,d,e,by omega⟩
  ·obtain ⟨d,e,h⟩:=f b.1
   exact ⟨by omega,d,e,by omega⟩
 ·rw [Ae a]
  by_cases p:0<z
  ·rw [Am p]
   by_cases q:z<256
   ·rw [Am q]
    refine ⟨by decide,by decide,by decide,?_⟩
    show fB 204 (cU z % 256 ^ 1)=z
    rw [show ∀v,fB 204 v=(v:Int) from fun _=>rfl]
    unfold cU;simp only [Nat.reducePow];omega
   rw [Ae q]
   by_cases q:z<65536
   ·rw [Am q]
    refine ⟨by decide,by decide,by decide,?_⟩
    show fB 205 (cU z % 256 ^ 2)=z
    rw [show ∀v,fB 205 v=(v:Int) from fun _=>rfl]
    unfold cU;simp only [Nat.reducePow];omega
   rw [Ae q]
   by_cases q:z<4294967296
   ·rw [Am q]
    refine ⟨by decide,by decide,by decide,?_⟩
    show fB 206 (cU z % 256 ^ 4)=z
    rw [show ∀v,fB 206 v=(v:Int) from fun _=>rfl]
    unfold cU;simp only [Nat.reducePow];omega
   rw [Ae q];refine ⟨by decide,by decide,by decide,?_⟩
   show fB 207 (cU z % 256 ^ 8)=z
   rw [show ∀v,fB 207 v=(v:Int) from fun _=>rfl]
   unfold cU;simp only [Nat.reducePow];omega
  ·rw [Ae p]
   by_cases q:-128≤z
   ·rw [Am q]
    refine ⟨by decide,by decide,by decide,?_⟩
    show fB 208 (cU z % 256 ^ 1)=z
    rw [show ∀v,fB 208 v=(v:Int) - 256 from fun _=>rfl]
    unfold cU;simp only [Nat.reducePow];omega
   rw [Ae q]
   by_cases q:-32768≤z
   ·rw [Am q]
    refine ⟨by decide,by decide,by decide,?_⟩
    show fB 209 (cU z % 256 ^ 2)=z
    rw [show ∀v,fB 209 v=(v:Int) - 65536 from fun _=>rfl]
    unfold cU;simp only [Nat.reducePow];omega
   rw [Ae q]
   by_cases q:-2147483648≤z
   ·rw [Am q]
    refine ⟨by decide,by decide,by decide,?_⟩
    show fB 210 (cU z % 256 ^ 4)=z
    rw [show ∀v,fB 210 v=(v:Int) - 4294967296 from fun _=>rfl]
    unfold cU;simp only [Nat.reducePow];omega
   rw [Ae q];refine ⟨by decide,by decide,by decide,?_⟩
   show fB 211 (cU z % 256 ^ 8)=z
   rw [show ∀v,fB 211 v=(v:Int) - 18446744073709551616 from fun _=>rfl]
   unfold cU;simp only [Nat.reducePow];omega
theorem PR (n:Nat) (h:n≤65536):(gU n).1<256∧mP (gU n).1=3∧eX (gU n).1=(gU n).2∧fB (gU n).1 (n % 256 ^ (gU n).2)=n:=by
 unfold gU
 by_cases a:n<32
 ·rw [Am a]
  dsimp only;obtain ⟨-,-,b,-⟩:=VB (160+n) (by omega)
  rw [Nat.pow_zero,Nat.mod_one];obtain ⟨d,c,e⟩:=b (by omega) (by omega)
  exact ⟨by omega,d,c,by omega⟩
 ·rw [Ae a]
  by_cases q:n<256
  ·rw [Am q]
   refine ⟨by decide,by decide,by decide,?_⟩
   show fB 217 (n % 256 ^ 1)=n
   rw [show ∀v,fB 217 v=(v:Int) from fun _=>rfl]
   simp only [Nat.reducePow];omega
  rw [Ae q]
  by_cases q:n<65536
  ·rw [Am q]
   refine ⟨by decide,by decide,by decide,?_⟩
   show fB 218 (n % 256 ^ 2)=n
   rw [show ∀v,fB 218 v=(v:Int) from fun _=>rfl]
   simp only [Nat.reducePow];omega
  rw [Ae q];refine ⟨by decide,by decide,by decide,?_⟩
  show fB 219 (n % 256 ^ 4)=n
  rw [show ∀v,fB 219 v=(v:Int) from fun _=>rfl]
  simp only [Nat.reducePow];omega
theorem aJx (n:Nat) (h:n≤256):(oG n).1<256∧mP (oG n).1=4∧eX (oG n).1=(oG n).2∧fB (oG n).1 (n % 256 ^ (oG n).2)=n:=by
 unfold oG
 by_cases a:n<16
 ·rw [Am a]
  dsimp only;obtain ⟨-,-,-,b,-⟩:=VB (144+n) (by omega)
  rw [Nat.pow_zero,Nat.mod_one];obtain ⟨d,c,e⟩:=b (by omega) (by omega)
  exact ⟨by omega,d,c,by omega⟩
 ·rw [Ae a]
  dsimp only;refine ⟨by decide,by decide,by decide,?_⟩
  show fB 220 (n % 256 ^ 2)=n
  rw [show ∀v,fB 220 v=(v:Int) from fun _=>rfl]
  simp only [Nat.reducePow];omega
theorem aJv (n:Nat) (h:n≤256):(kR n).1<256∧mP (kR n).1=5∧eX (kR n).1=(kR n).2∧fB (kR n).1 (n % 256 ^ (kR n).2)=n:=by
 unfold kR
 by_cases a:n<16
 ·rw [Am a]
  dsimp only;obtain ⟨-,-,-,-,b⟩:=VB (128+n) (by omega)
  rw [Nat.pow_zero,Nat.mod_one];obtain ⟨d,c,e⟩:=b (by omega) (by omega)
  exact ⟨by omega,d,c,by omega⟩
 ·rw [Ae a]
  dsimp only;refine ⟨by decide,by decide,by decide,?_⟩
  show fB 222 (n % 256 ^ 2)=n
  rw [show ∀v,fB 222 v=(v:Int) from fun _=>rfl]
  simp only [Nat.reducePow];omega
theorem yD {d:Nat} {x:ND} (h:aC (d+1) x=true) (g:aP (d+1) x=true):(pHd x).1<256∧mP (pHd x).1=x.kind∧eX (pHd x).1=(pHd x).2∧fB (pHd x).1 (lD x % 256 ^ (pHd x).2)=iC x:=by
 obtain ⟨o,f,c,j⟩:=aX h;obtain ⟨a,l⟩:=cG g;have i:=dY c;unfold dD at a;rw [An,As,As] at a;have e:=iF h;obtain ⟨k,b,n,t,ns,its⟩:=x;unfold nd0 at e;simp only [ND.mk.injEq,ND.kind,ND.bool,ND.num,ND.text,ND.names,ND.items] at *;rcases e with ⟨rfl,rfl,rfl,rfl,rfl,rfl⟩ | ⟨rfl,-,rfl,rfl,rfl,rfl⟩ | ⟨rfl,rfl,-,rfl,rfl,rfl⟩ | ⟨rfl,rfl,rfl,-,rfl,rfl⟩ | ⟨rfl,rfl,rfl,rfl,rfl,-⟩ | ⟨⟨rfl,rfl,rfl,rfl,-,-⟩,m⟩
 ·exact ⟨by decide,by decide,by decide,by decide⟩
 ·cases b <;> exact ⟨by decide,by decide,by decide,by decide⟩
 ·exact aJq n a.1 a.2
 ·exact PR t.size i
 ·exact aJx its.length f
 ·exact aJv its.length f
theorem ZE {x y:ND} {d e:Nat} {t c:Ub} (q:aC (d+1) x=true) (s:aP (d+1) x=true) (u:aC (e+1) y=true) (o:aP (e+1) y=true) (h:cH (pHd x) (lD x)++t=cH (pHd y) (lD y)++c):x.kind=y.kind∧iC x=iC y∧t=c:=by
 obtain ⟨w,v,p,k⟩:=yD q s;obtain ⟨z,l,n,j⟩:=yD u o;unfold cH at h;rw [Bo,Bo] at h;obtain ⟨a,f⟩:=List.cons.inj h;have a:=Ad UInt8.toNat a;rw [Bb,Bb] at a;have b:(pHd x).1=(pHd y).1:=by omega
 have i:(pHd x).2=(pHd y).2:=by rw [←p,←n,b]
 rw [←i] at f;obtain ⟨m,r⟩:=List.append_inj f (by rw [aQ,aQ])
 have g:=Ad gM m;rw [jB,jB] at g;rw [←i,←g,←b] at j;exact ⟨by rw [←v,←l,b],by rw [←k,←j],r⟩
def eR (s:Bt):Ub:=cH (gU s.size) s.size++s.data.toList
def lA (W:ND→Ub) (x:ND):Ub:=
 if x.kind=3 then x.text.data.toList
 else if x.kind=4 then x.items.flatMap W
 else if x.kind=5 then (List.zipWith (fun s y=>eR s++W y) x.names x.items).flatten
 else []
def aW:Nat→ND→Ub
 | 0,_=>[]
 | d+1,x=>cH (pHd x) (lD x)++lA (aW d) x
theorem gB (d:Nat) (x:ND):aW (d+1) x=cH (pHd x) (lD x)++lA (aW d) x:=rfl
theorem XN {a b:Bt} {t d:Ub} (u:a.size≤65536) (q:b.size≤65536) (h:eR a++t=eR b++d):a=b∧t=d:=by
 obtain ⟨x,w,r,k⟩:=PR a.size u;obtain ⟨y,v,o,i⟩:=PR b.size q;unfold eR cH at h;rw [Aj,Aj,Bo,Bo] at h;obtain ⟨c,e⟩:=List.cons.inj h;have c:=Ad UInt8.toNat c;rw [Bb,Bb] at c;have f:(gU a.size).1=(gU b.size).1:=by omega
 have j:(gU a.size).2=(gU b.size).2:=by rw [←r,←o,f]
 rw [←j] at e;obtain ⟨l,s⟩:=List.append_inj e (by rw [aQ,aQ])
 have g:=Ad gM l;rw [jB,jB] at g;rw [←j,←g,←f] at i;have p:a.size=b.size:=by have:=k.symm.trans i;omega
 obtain ⟨n,m⟩:=List.append_inj s (by rw [Ah,Ah];exact p)
 exact ⟨mG n,m⟩
theorem JY {W:ND→Ub}:∀ (ns f:List Bt) (d e:List ND) (t c:Ub),ns.length=d.length→f.length=e.length→d.length=e.length→(∀s,s ∈ ns→s.size≤65536)→(∀s,s ∈ f→s.size≤65536)→(∀x y t c,x ∈ d→y ∈ e→W x++t=W y++c→x=y∧t=c) →
 (List.zipWith (fun s y=>eR s++W y) ns d).flatten++t=(List.zipWith (fun s y=>eR s++W y) f e).flatten++c→ns=f∧d=e∧t=c
 | [],[],[],[],t,c,_,_,_,_,_,_,h=>⟨rfl,rfl,h⟩
 | n::ns,m::f,x::d,y::e,t,c,h1,h2,h3,hn,hm,hw,h=>by
  rw [Bh,Bh,Bv,Bv,Aj,Aj,Aj,Aj] at h;obtain ⟨rfl,o⟩:=XN (hn n (by simp)) (hm m (by simp)) h
  obtain ⟨rfl,j⟩:=hw x y _ _ (by simp) (by simp) o
  obtain ⟨rfl,rfl,k⟩:=JY ns f d e t c (by simpa using h1) (by simpa using h2) (by simpa using h3) (fun s g=>hn s (by simp [g])) (fun s g=>hm s (by simp [g])) (fun a b u l p i=>hw a b u l (by simp [p]) (by simp [i])) j
  exact ⟨rfl,rfl,k⟩
 | [],_,_::_,_,_,_,h,_,_,_,_,_,_=>by simp at h
 | _::_,_,[],_,_,_,h,_,_,_,_,_,_=>by simp at h
 | _,[],_,_::_,_,_,_,h,_,_,_,_,_=>by simp at h
 | _,_::_,_,[],_,_,_,h,_,_,_,_,_=>by simp at h
 | [],_::_,[],_::_,_,_,_,_,h,_,_,_,_=>by simp at h
theorem oK:∀ (d:Nat) (x y:ND) (t i:Ub),aC d x=true→aP d x=true→aC d y=true→aP d y=true→aW d x++t=aW d y++i→x=y∧t=i
 | 0,_,_,_,_,h,_,_,_,_=>by cases h
 | d+1,x,y,t,i,hx,nx,hy,ny,h=>by
  rw [gB,gB,Aj,Aj] at h;obtain ⟨C,g,c⟩:=ZE hx nx hy ny h;obtain ⟨F,L,M,E⟩:=aX hx;obtain ⟨J,O,ty,B⟩:=aX hy;obtain ⟨N,D⟩:=cG nx;obtain ⟨Q,K⟩:=cG ny;have w:∀a b u m,a ∈ x.items→b ∈ y.items→aW d a++u=aW d b++m→a=b∧u=m:=fun a b u m A z=>oK d a b u m (F a A) (D a A) (J b z) (K b z)
  have v:=iF hx;have e:=iF hy;obtain ⟨k,b,n,P,ns,its⟩:=x;obtain ⟨R,H,n',G,o,f⟩:=y;unfold nd0 at v e;simp only [ND.mk.injEq,ND.kind,ND.bool,ND.num,ND.text,ND.names,ND.items] at *;subst C;unfold iC at g;unfold lA at c;simp only [ND.kind,ND.bool,ND.num,ND.text,ND.names,ND.items] at g c;rcases v with ⟨rfl,rfl,rfl,rfl,rfl,rfl⟩ | ⟨rfl,-,rfl,rfl,rfl,rfl⟩ | ⟨rfl,rfl,-,rfl,rfl,rfl⟩ | ⟨rfl,rfl,rfl,-,rfl,rfl⟩ | ⟨rfl,rfl,rfl,rfl,rfl,-⟩ | ⟨⟨rfl,rfl,rfl,rfl,-,-⟩,q⟩ <;>
  simp at e g c
  ·obtain ⟨rfl,rfl,rfl,rfl,rfl⟩:=e;exact ⟨⟨rfl,rfl,rfl,rfl,rfl,rfl⟩,c⟩
  ·obtain ⟨rfl,rfl,rfl,rfl⟩:=e;refine ⟨⟨rfl,?_,rfl,rfl,rfl,rfl⟩,c⟩;revert g;cases b <;> cases H <;> simp
  ·obtain ⟨rfl,rfl,rfl,rfl⟩:=e;exact ⟨⟨rfl,rfl,g,rfl,rfl,rfl⟩,c⟩
  ·obtain ⟨rfl,rfl,rfl,rfl⟩:=e
   obtain ⟨l,j⟩:=List.append_inj c (by rw [Ah,Ah];exact_mod_cast g)
   exact ⟨⟨rfl,rfl,rfl,mG l,rfl,rfl⟩,j⟩
  ·obtain ⟨rfl,rfl,rfl,rfl⟩:=e
   obtain ⟨l,j⟩:=BG its f t i (by omega) w c
   exact ⟨⟨rfl,rfl,rfl,rfl,rfl,l⟩,j⟩
  ·obtain ⟨⟨rfl,rfl,rfl⟩,r⟩:=e
   obtain ⟨l,j,I⟩:=JY ns o its f t i q r (by omega) (fun s p=>dY (E s p)) (fun s p=>dY (B s p)) w c
   exact ⟨⟨rfl,rfl,rfl,rfl,l,j⟩,I⟩
theorem OW {d:Nat} {x y:ND} (b:eS d x=true) (a:eS d y=true) (h:aW d x=aW d y):x=y:=
 (oK d x y [] [] (eF b) (fI b) (eF a) (fI a) (by rw [h])).1
end Go.Proofs.YtncdpanfefnjlaaGreatDoor