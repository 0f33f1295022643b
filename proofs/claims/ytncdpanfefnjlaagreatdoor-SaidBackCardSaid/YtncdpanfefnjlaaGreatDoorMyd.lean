import Derived.Test.YtncdpanfefnjlaaGreatDoorJrv
import Derived.Test.YtncdpanfefnjlaaGreatDoorJcur
set_option linter.unusedVariables false
set_option linter.unusedSimpArgs false
namespace Go.Proofs.YtncdpanfefnjlaaGreatDoor
open Go.Proofs.Tryz
theorem xC (x:ND):fV x<8:=by
 unfold fV
 (repeat' split) <;> omega
theorem xD {d:Nat} {x:ND} (h:aB (d+1) x=true) (hn:aO (d+1) x=true):gG x<18446744073709551616:=by
 obtain ⟨hi,hl,htx,hns⟩:=aX h;obtain ⟨hw,hni⟩:=cL hn;have h1:=kC htx;have h2:x.text.data.toList.length=x.text.size:=by rw [Ah];rfl
 unfold dD at hw;rw [Ak,Av,Av] at hw;unfold gG
 (repeat' split) <;> omega
def oV (d:Nat) (x:ND):Ub:=
 if x.kind=3 then x.text.data.toList
 else if x.kind=4 then x.items.flatMap (bJ d)
 else if x.kind=5 then (List.zipWith (fun s y=>fY s++bJ d y) x.names x.items).flatten
 else []
theorem gJ (d:Nat) (x:ND):bJ (d+1) x=eA (fV x) (gG x)++oV d x:=rfl
theorem mP {a b:Bt} (h:a.data.toList=b.data.toList):a=b:=Cp (Ce.1 h)
theorem YK {a b:Bt} {t t':Ub} (ha:a.size≤65536) (hb:b.size≤65536) (h:fY a++t=fY b++t'):a=b∧t=t':=by
 unfold fY at h;rw [Aj,Aj] at h;obtain ⟨-,h1,h2⟩:=DM (by decide) (by decide) (by omega) (by omega) h
 obtain ⟨h3,h4⟩:=List.append_inj h2 (by rw [Ah,Ah];exact h1)
 exact ⟨mP h3,h4⟩
theorem zU {W:ND→Ub}:∀ (xs ys:List ND) (t t':Ub),xs.length=ys.length→(∀x y t t',x ∈ xs→y ∈ ys→W x++t=W y++t'→x=y∧t=t')→xs.flatMap W++t=ys.flatMap W++t'→xs=ys∧t=t'
 | [],[],t,t',_,_,h=>⟨rfl,h⟩
 | [],_::_,_,_,h,_,_=>by simp at h
 | _::_,[],_,_,h,_,_=>by simp at h
 | x::xs,y::ys,t,t',hl,hw,h=>by
  rw [Co,Co,Aj,Aj] at h;obtain ⟨rfl,h2⟩:=hw x y _ _ (by simp) (by simp) h
  obtain ⟨rfl,h3⟩:=zU xs ys t t' (by simpa using hl) (fun a b u u' ha hb=>hw a b u u' (by simp [ha]) (by simp [hb])) h2
  exact ⟨rfl,h3⟩
theorem IJ {W:ND→Ub}:∀ (ns ms:List Bt) (xs ys:List ND) (t t':Ub),ns.length=xs.length→ms.length=ys.length→xs.length=ys.length→(∀s,s ∈ ns→s.size≤65536)→(∀s,s ∈ ms→s.size≤65536)→(∀x y t t',x ∈ xs→y ∈ ys→W x++t=W y++t'→x=y∧t=t') →
 (List.zipWith (fun s y=>fY s++W y) ns xs).flatten++t=(List.zipWith (fun s y=>fY s++W y) ms ys).flatten++t'→ns=ms∧xs=ys∧t=t'
 | [],[],[],[],t,t',_,_,_,_,_,_,h=>⟨rfl,rfl,h⟩
 | n::ns,m::ms,x::xs,y::ys,t,t',h1,h2,h3,hn,hm,hw,h=>by
  rw [Bg,Bg,Bp,Bp,Aj,Aj,Aj,Aj] at h;obtain ⟨rfl,h4⟩:=YK (hn n (by simp)) (hm m (by simp)) h
  obtain ⟨rfl,h5⟩:=hw x y _ _ (by simp) (by simp) h4
  obtain ⟨rfl,rfl,h6⟩:=IJ ns ms xs ys t t' (by simpa using h1) (by simpa using h2) (by simpa using h3) (fun s hs=>hn s (by simp [hs])) (fun s hs=>hm s (by simp [hs])) (fun a b u u' ha hb=>hw a b u u' (by simp [ha]) (by simp [hb])) h5
  exact ⟨rfl,rfl,h6⟩
 | [],_,_::_,_,_,_,h,_,_,_,_,_,_=>by simp at h
 | _::_,_,[],_,_,_,h,_,_,_,_,_,_=>by simp at h
 | _,[],_,_::_,_,_,_,h,_,_,_,_,_=>by simp at h
 | _,_::_,_,[],_,_,_,h,_,_,_,_,_=>by simp at h
 | [],_::_,[],_::_,_,_,_,_,h,_,_,_,_=>by simp at h
theorem fJ {s:Bt} (h:aV s=true):s.size≤65536:=by
 have h1:=kC h;have h2:s.data.toList.length=s.size:=by rw [Ah];rfl
 omega
theorem nU:∀ (d:Nat) (x y:ND) (t t':Ub),aB d x=true→aO d x=true→aB d y=true→aO d y=true→bJ d x++t=bJ d y++t'→x=y∧t=t'
 | 0,_,_,_,_,h,_,_,_,_=>by cases h
 | d+1,x,y,t,t',hx,nx,hy,ny,h=>by
  rw [gJ,gJ,Aj,Aj] at h;obtain ⟨hm,hc,hr⟩:=DM (xC x) (xC y) (xD hx nx) (xD hy ny) h;obtain ⟨ix,lx,tx,sx⟩:=aX hx;obtain ⟨iy,ly,ty,sy⟩:=aX hy;obtain ⟨wx,mx⟩:=cL nx;obtain ⟨wy,my⟩:=cL ny;have ih:∀a b u u',a ∈ x.items→b ∈ y.items→bJ d a++u=bJ d b++u'→a=b∧u=u':=fun a b u u' ha hb=>nU d a b u u' (ix a ha) (mx a ha) (iy b hb) (my b hb)
  have kx:=jA hx;have ky:=jA hy;obtain ⟨k,b,n,tt,ns,its⟩:=x;obtain ⟨k',b',n',tt',ns',its'⟩:=y;unfold nd0 at kx ky;simp only [ND.mk.injEq,ND.kind,ND.bool,ND.num,ND.text,ND.names,ND.items] at *;unfold fV at hm;unfold gG at hc;unfold oV at hr;simp only [ND.kind,ND.bool,ND.num,ND.text,ND.names,ND.items] at hm hc hr;rcases kx with ⟨rfl,rfl,rfl,rfl,rfl,rfl⟩ | ⟨rfl,-,rfl,rfl,rfl,rfl⟩ | ⟨rfl,rfl,-,rfl,rfl,rfl⟩ | ⟨rfl,rfl,rfl,-,rfl,rfl⟩ | ⟨rfl,rfl,rfl,rfl,rfl,-⟩ | ⟨⟨rfl,rfl,rfl,rfl,-,-⟩,hlx⟩ <;>
  rcases ky with ⟨rfl,rfl,rfl,rfl,rfl,rfl⟩ | ⟨rfl,-,rfl,rfl,rfl,rfl⟩ | ⟨rfl,rfl,-,rfl,rfl,rfl⟩ | ⟨rfl,rfl,rfl,-,rfl,rfl⟩ | ⟨rfl,rfl,rfl,rfl,rfl,-⟩ | ⟨⟨rfl,rfl,rfl,rfl,-,-⟩,hly⟩ <;>
  simp at hm hc hr <;> first
   | (exfalso;by_cases hq:n'<0 <;> simp [hq] at hm;done)
   | (exfalso;by_cases hq:n<0 <;> simp [hq] at hm;done)
   | (exfalso;revert hc;cases b' <;> simp;done)
   | (exfalso;revert hc;cases b <;> simp;done)
   | (exact ⟨⟨rfl,rfl,rfl,rfl,rfl,rfl⟩,hr⟩)
   | (refine ⟨⟨rfl,?_,rfl,rfl,rfl,rfl⟩,hr⟩;revert hc;cases b <;> cases b' <;> simp)
   | (refine ⟨⟨rfl,rfl,?_,rfl,rfl,rfl⟩,hr⟩;by_cases hq:n<0 <;> by_cases hq':n'<0 <;> simp [hq,hq'] at hm hc <;> omega)
   | (obtain ⟨h3,h4⟩:=List.append_inj hr (by rw [Ah,Ah];exact hc);exact ⟨⟨rfl,rfl,rfl,mP h3,rfl,rfl⟩,h4⟩)
   | (obtain ⟨h3,h4⟩:=zU its its' t t' hc ih hr;exact ⟨⟨rfl,rfl,rfl,rfl,rfl,h3⟩,h4⟩)
   | (obtain ⟨h3,h4,h5⟩:=IJ ns ns' its its' t t' hlx hly hc (fun s hs=>fJ (sx s hs)) (fun s hs=>fJ (sy s hs)) ih hr;exact ⟨⟨rfl,rfl,rfl,rfl,h3,h4⟩,h5⟩)
theorem NF {d:Nat} {x y:ND} (hx:eF d x=true) (hy:eF d y=true) (h:bJ d x=bJ d y):x=y:=
 (nU d x y [] [] (dU hx) (eZ hx) (dU hy) (eZ hy) (by rw [h])).1
theorem QF {m:Nat} (n:Nat):(eA m n).length≤9:=by rw [kU];have:=LJ n;omega
theorem RF (s:Bt):(fY s).length≤6 * s.size+8:=by
 have h2:s.data.toList.length=s.size:=by rw [Ah];rfl
 unfold fY;rw [Lg,kU,h2];unfold fN
 (repeat' split) <;> omega
theorem uK {W:ND→Ub} {c:ND→Nat}:∀ (its:List ND),(∀y,y ∈ its→(W y).length≤c y)→(its.flatMap W).length≤(its.map fun y=>c y+1).sum
 | [],_=>Lr _
 | y::ys,h=>by
  have ih:=uK ys (fun z hz=>h z (by simp [hz]))
  have h3:=h y (by simp)
  rw [Co,Lg,Bj,Cg];omega
theorem II {W:ND→Ub} {c:ND→Nat}:∀ (ns:List Bt) (its:List ND),(∀y,y ∈ its→(W y).length≤c y)→(List.zipWith (fun s y=>fY s++W y) ns its).flatten.length≤(ns.map fun s=>6 * s.size+8).sum+(its.map fun y=>c y+1).sum
 | [],_,_=>by simp
 | _::_,[],_=>by simp
 | s::ss,y::ys,h=>by
  have ih:=II ss ys (fun z hz=>h z (by simp [hz]))
  have h1:=RF s;have h3:=h y (by simp)
  rw [Bg,Bp,Lg,Lg,Bj,Cg,Bj,Cg];omega
theorem vD:∀ (d:Nat) (x:ND),aB d x=true→(bJ d x).length≤bG d x
 | 0,_,h=>by cases h
 | d+1,x,h=>by
  obtain ⟨hi,hl,htx,hns⟩:=aX h;have ih:∀y,y ∈ x.items→(bJ d y).length≤bG d y:=fun y hy=>vD d y (hi y hy)
  have hts:x.text.data.toList.length=x.text.size:=by rw [Ah];rfl
  have h9:=QF (m:=fV x) (gG x);have h1:=uK x.items ih;have h2:=II (W:=bJ d) x.names x.items ih;rw [eC,gJ,Lg];unfold oV
  split
  ·omega
  ·split
   ·omega
   ·split
    ·omega
    ·simp;omega
end Go.Proofs.YtncdpanfefnjlaaGreatDoor
namespace Go.Proofs.YtncdpanfefnjlaaGreatDoor
open Go.Proofs.Tryz
open Go Go.ChangeShapes Go.WideShapes Go.ChangeAt Go.RowKit
def bC (l:Ub):Bt:=⟨l.toArray⟩
theorem iE (l:Ub):(bC l).data.toList=l:=by simp [bC]
theorem eH (l:Ub):(bC l).size=l.length:=by simp [bC,ByteArray.size]
theorem qG (s:Bt):bC s.data.toList=s:=by cases s;simp [bC]
theorem aDr (a b:Ub):bC a++bC b=bC (a++b):=by
 apply mP
 rw [ByteArray.data_append,Array.toList_append,iE,iE,iE]
theorem EB (n:Nat):∀k j,j<k→(dF n k).take (j+1)=(dF n k).take j++[UInt8.ofNat (n / 256 ^ (k - 1 - j))]
 | 0,j,h=>by omega
 | k+1,0,_=>by rw [dF];rfl
 | k+1,j+1,h=>by
  have:=EB n k j (by omega)
  rw [dF,Cv,Cv,this,show k+1 - 1 - (j+1)=k - 1 - j by omega]
  rfl
theorem aGs (n i:Nat):(n:Int) / 2 ^ (8 * i) % 256=((UInt8.ofNat (n / 256 ^ i)).toNat:Int):=by
 have h:(2:Int) ^ (8 * i)=((256 ^ i:Nat):Int):=by
  rw [show (256:Nat)=2 ^ 8 from rfl,←Nat.pow_mul,Int.natCast_pow];rfl
 rw [h,Be,←Int.natCast_ediv]
 rfl
theorem uI:∀m v:Nat,m<8→v<32→bits BinOp.or IntKind.u8 ((m:Int) * 32) (v:Int)=((UInt8.ofNat (32 * m+v)).toNat:Int):=by
 have:∀ (m:Fin 8) (v:Fin 32),bits BinOp.or IntKind.u8 ((m.1:Int) * 32) (v.1:Int)=((UInt8.ofNat (32 * m.1+v.1)).toNat:Int):=by decide +kernel
 exact fun m v hm hv=>this ⟨m,hm⟩ ⟨v,hv⟩
def csS (x:ND):Bt:=if aB 8 x then (if 65536<(bJ 8 x).length then ⟨#[]⟩ else bC (bJ 8 x)) else ⟨#[]⟩
def csE (x:ND):Int:=if aB 8 x then (if 65536<(bJ 8 x).length then 3 else 0) else 1
theorem GD {x:ND} (h:aB 8 x=false):csS x=⟨#[]⟩∧csE x=1:=by unfold csS csE;rw [h];exact ⟨rfl,rfl⟩
theorem AD {x:ND} (h:aB 8 x=true) (hl:65536<(bJ 8 x).length):csS x=⟨#[]⟩∧csE x=3:=by unfold csS csE;rw [h,Am rfl,Am rfl,Am hl,Am hl];exact ⟨rfl,rfl⟩
theorem sT {x:ND} (h:aB 8 x=true) (hl:¬65536<(bJ 8 x).length):csS x=bC (bJ 8 x)∧csE x=0:=by unfold csS csE;rw [h,Am rfl,Am rfl,Af hl,Af hl];exact ⟨rfl,rfl⟩
theorem aDd (x:ND):(csS x).size≤65536:=by
 unfold csS
 split
 ·split
  ·exact Ax _
  ·rw [eH];omega
 ·exact Ax _
def aEr (x:ND) (w:World) (e:Ending) (w':World):Prop:=e=.returned (.tuple #[.string (csS x),Iz (csE x)])∧Below w.heap.size w w'
theorem MH {l:Ub} {p:Nat} {c:UInt8} (h:l[p]?=some c):l.drop p=c::l.drop (p+1):=by
 have hp:p<l.length:=dH h;rw [List.drop_eq_getElem_cons hp];rw [Ac hp] at h;rw [Ab h]
theorem aHz (N c:Nat) (hN:N * 256<18446744073709551616) (hc:c<256):bits BinOp.or IntKind.u64 ((N:Int) * 256) (c:Int)=((N * 256+c:Nat):Int):=by
 have e:((N:Int) * 256)=((N * 256:Nat):Int):=by omega
 rw [e,u64_or_nat _ _ hN (by omega),Nat.or_comm,←u64_or_nat _ _ (by omega) hN]
 have h:=u64_or8 (y:=(c:Int)) (x:=((N * 256:Nat):Int)) (by omega) (by omega) (by omega) (by omega) (by omega)
 rw [show bits BinOp.or IntKind.u64 (c:Int) ((N * 256:Nat):Int)=_ from h]
 omega
theorem DZ (l:Ub) (c:UInt8):fZ (l++[c])=fZ l * 256+c.toNat:=by unfold fZ;rw [List.foldl_append];rfl
theorem nH:∀l:Ub,fZ l<256 ^ l.length
 | []=>by simp [fZ]
 | c::t=>by
  have h1:=nH t;have h2:=c.toNat_lt;rw [EA,Ag,Dt];have h3:c.toNat * 256 ^ t.length≤255 * 256 ^ t.length:=Nat.mul_le_mul_right _ (by omega)
  omega
theorem eJ {N:Nat} (h:N<18446744073709551616):(gU N<24∧fN N=0∧N=gU N)∨(24≤gU N∧gU N≤27∧fN N=2 ^ (gU N - 24)∧N<256 ^ fN N):=by
 unfold gU fN
 (repeat' split) <;> first
  | (left;omega)
  | (right;refine ⟨by decide,by decide,by decide,?_⟩;simp only [Nat.reducePow];omega)
theorem QD {l:Ub} {p:Nat} {c:UInt8} (hc:l[p]?=some c) {M N:Nat} {t:Ub} (hM:M<8) (h:l.drop p=eA M N++t):c.toNat / 32=M∧c.toNat % 32=gU N∧l.drop (p+1)=dF N (fN N)++t:=by
 rw [MH hc] at h;unfold eA at h;rw [Bm] at h;obtain ⟨h1,h2⟩:=List.cons.inj h;have h3:=Ad UInt8.toNat h1;rw [Be] at h3;have:=zQ N;exact ⟨by omega,by omega,h2⟩
end Go.Proofs.YtncdpanfefnjlaaGreatDoor
namespace Go.Proofs.YtncdpanfefnjlaaGreatDoor
open Go.Proofs.Tryz
def eU (z:Int):Nat:=(z % 18446744073709551616).toNat
def qR (z:Int):Nat × Nat:=if -32≤z∧z<128 then (eU z % 256,0) else if 0<z then (if z<256 then (204,1) else if z<65536 then (205,2) else if z<4294967296 then (206,4) else (207,8)) else if -128≤z then (208,1) else if -32768≤z then (209,2) else if -2147483648≤z then (210,4) else (211,8)
def kL (n:Nat):Nat × Nat:=if n<32 then (160+n,0) else if n<256 then (217,1) else if n<65536 then (218,2) else (219,4)
def uB (n:Nat):Nat × Nat:=if n<16 then (144+n,0) else (220,2)
def mB (n:Nat):Nat × Nat:=if n<16 then (128+n,0) else (222,2)
def cZ (h:Nat × Nat) (v:Nat):Ub:=UInt8.ofNat h.1::dF v h.2
def pHd (x:ND):Nat × Nat:=if x.kind=1 then (if x.bool then (195,0) else (194,0)) else if x.kind=2 then qR x.num else if x.kind=3 then kL x.text.size else if x.kind=4 then uB x.items.length else if x.kind=5 then mB x.items.length else (192,0)
def kO (x:ND):Nat:=if x.kind=2 then eU x.num else if x.kind=3 then x.text.size else if x.kind=4 then x.items.length else if x.kind=5 then x.items.length else 0
def gR (x:ND):Int:=if x.kind=1 then (if x.bool then 1 else 0) else if x.kind=2 then x.num else if x.kind=3 then x.text.size else if x.kind=4 then x.items.length else if x.kind=5 then x.items.length else 0
def mA (c:Nat):Int:=if c<128 then 2 else if c<144 then 5 else if c<160 then 4 else if c<192 then 3 else if c=192 then 0 else if c<196 then 1 else if c<212 then 2 else if c<220 then 3 else if c=220 then 4 else if c=222 then 5 else 2
def eK (c:Nat):Nat:=if c=204∨c=208∨c=217 then 1 else if c=205∨c=209∨c=218∨c=220∨c=222 then 2 else if c=206∨c=210∨c=219 then 4 else if c=207∨c=211 then 8 else 0
def eP (c v:Nat):Int:=if c<128 then c else if c<144 then c - 128 else if c<160 then c - 144 else if c<192 then c - 160 else if c=195 then 1 else if c<208 then v else if c=208 then v - 256 else if c=209 then v - 65536 else if c=210 then v - 4294967296 else if c=211 then v - 18446744073709551616 else if c<224 then v else c - 256
theorem TL:∀c:Nat,c<256→(c<128→mA c=2∧eK c=0∧eP c 0=c)∧(224≤c→mA c=2∧eK c=0∧eP c 0=(c:Int) - 256)∧(160≤c→c<192→mA c=3∧eK c=0∧eP c 0=(c:Int) - 160)∧(144≤c→c<160→mA c=4∧eK c=0∧eP c 0=(c:Int) - 144)∧(128≤c→c<144→mA c=5∧eK c=0∧eP c 0=(c:Int) - 128):=by
 have:∀c:Fin 256,(c.1<128→mA c.1=2∧eK c.1=0∧eP c.1 0=c.1)∧(224≤c.1→mA c.1=2∧eK c.1=0∧eP c.1 0=(c.1:Int) - 256)∧(160≤c.1→c.1<192→mA c.1=3∧eK c.1=0∧eP c.1 0=(c.1:Int) - 160)∧(144≤c.1→c.1<160→mA c.1=4∧eK c.1=0∧eP c.1 0=(c.1:Int) - 144)∧(128≤c.1→c.1<144→mA c.1=5∧eK c.1=0∧eP c.1 0=(c.1:Int) - 128):=by decide +kernel
 exact fun c h=>this ⟨c,h⟩
theorem aIa (z:Int) (h1:-9223372036854775808≤z) (h2:z≤9223372036854775807):(qR z).1<256∧mA (qR z).1=2∧eK (qR z).1=(qR z).2∧eP (qR z).1 (eU z % 256 ^ (qR z).2)=z:=by
 unfold qR
 by_cases a:-32≤z∧z<128
 ·rw [Am a]
  dsimp only;have hc:eU z % 256<128∧(eU z % 256:Nat)=z∨224≤eU z % 256∧eU z % 256<256∧(eU z % 256:Nat)=z+256:=by unfold eU;omega
  generalize eU z % 256=c at hc ⊢;obtain ⟨d1,d2,-⟩:=TL c (by omega)
  rw [Nat.pow_zero,Nat.mod_one];rcases hc with hc | hc
  ·obtain ⟨e1,e2,e3⟩:=d1 hc.1
   exact ⟨by omega,e1,e2,by omega⟩
  ·obtain ⟨e1,e2,e3⟩:=d2 hc.1
   exact ⟨by omega,e1,e2,by omega⟩
 ·rw [Af a]
  by_cases p:0<z
  ·rw [Am p]
   by_cases q:z<256
   ·rw [Am q]
    refine ⟨by decide,by decide,by decide,?_⟩
    show eP 204 (eU z % 256 ^ 1)=z
    rw [show ∀v,eP 204 v=(v:Int) from fun _=>rfl]
    unfold eU;simp only [Nat.reducePow];omega
   rw [Af q]
   by_cases q:z<65536
   ·rw [Am q]
    refine ⟨by decide,by decide,by decide,?_⟩
    show eP 205 (eU z % 256 ^ 2)=z
    rw [show ∀v,eP 205 v=(v:Int) from fun _=>rfl]
    unfold eU;simp only [Nat.reducePow];omega
   rw [Af q]
   by_cases q:z<4294967296
   ·rw [Am q]
    refine ⟨by decide,by decide,by decide,?_⟩
    show eP 206 (eU z % 256 ^ 4)=z
    rw [show ∀v,eP 206 v=(v:Int) from fun _=>rfl]
    unfold eU;simp only [Nat.reducePow];omega
   rw [Af q];refine ⟨by decide,by decide,by decide,?_⟩
   show eP 207 (eU z % 256 ^ 8)=z
   rw [show ∀v,eP 207 v=(v:Int) from fun _=>rfl]
   unfold eU;simp only [Nat.reducePow];omega
  ·rw [Af p]
   by_cases q:-128≤z
   ·rw [Am q]
    refine ⟨by decide,by decide,by decide,?_⟩
    show eP 208 (eU z % 256 ^ 1)=z
    rw [show ∀v,eP 208 v=(v:Int) - 256 from fun _=>rfl]
    unfold eU;simp only [Nat.reducePow];omega
   rw [Af q]
   by_cases q:-32768≤z
   ·rw [Am q]
    refine ⟨by decide,by decide,by decide,?_⟩
    show eP 209 (eU z % 256 ^ 2)=z
    rw [show ∀v,eP 209 v=(v:Int) - 65536 from fun _=>rfl]
    unfold eU;simp only [Nat.reducePow];omega
   rw [Af q]
   by_cases q:-2147483648≤z
   ·rw [Am q]
    refine ⟨by decide,by decide,by decide,?_⟩
    show eP 210 (eU z % 256 ^ 4)=z
    rw [show ∀v,eP 210 v=(v:Int) - 4294967296 from fun _=>rfl]
    unfold eU;simp only [Nat.reducePow];omega
   rw [Af q];refine ⟨by decide,by decide,by decide,?_⟩
   show eP 211 (eU z % 256 ^ 8)=z
   rw [show ∀v,eP 211 v=(v:Int) - 18446744073709551616 from fun _=>rfl]
   unfold eU;simp only [Nat.reducePow];omega
theorem NW (n:Nat) (h:n≤65536):(kL n).1<256∧mA (kL n).1=3∧eK (kL n).1=(kL n).2∧eP (kL n).1 (n % 256 ^ (kL n).2)=n:=by
 unfold kL
 by_cases a:n<32
 ·rw [Am a]
  dsimp only;obtain ⟨-,-,d1,-⟩:=TL (160+n) (by omega)
  rw [Nat.pow_zero,Nat.mod_one];obtain ⟨e1,e2,e3⟩:=d1 (by omega) (by omega)
  exact ⟨by omega,e1,e2,by omega⟩
 ·rw [Af a]
  by_cases q:n<256
  ·rw [Am q]
   refine ⟨by decide,by decide,by decide,?_⟩
   show eP 217 (n % 256 ^ 1)=n
   rw [show ∀v,eP 217 v=(v:Int) from fun _=>rfl]
   simp only [Nat.reducePow];omega
  rw [Af q]
  by_cases q:n<65536
  ·rw [Am q]
   refine ⟨by decide,by decide,by decide,?_⟩
   show eP 218 (n % 256 ^ 2)=n
   rw [show ∀v,eP 218 v=(v:Int) from fun _=>rfl]
   simp only [Nat.reducePow];omega
  rw [Af q];refine ⟨by decide,by decide,by decide,?_⟩
  show eP 219 (n % 256 ^ 4)=n
  rw [show ∀v,eP 219 v=(v:Int) from fun _=>rfl]
  simp only [Nat.reducePow];omega
theorem aIh (n:Nat) (h:n≤256):(uB n).1<256∧mA (uB n).1=4∧eK (uB n).1=(uB n).2∧eP (uB n).1 (n % 256 ^ (uB n).2)=n:=by
 unfold uB
 by_cases a:n<16
 ·rw [Am a]
  dsimp only;obtain ⟨-,-,-,d1,-⟩:=TL (144+n) (by omega)
  rw [Nat.pow_zero,Nat.mod_one];obtain ⟨e1,e2,e3⟩:=d1 (by omega) (by omega)
  exact ⟨by omega,e1,e2,by omega⟩
 ·rw [Af a]
  dsimp only;refine ⟨by decide,by decide,by decide,?_⟩
  show eP 220 (n % 256 ^ 2)=n
  rw [show ∀v,eP 220 v=(v:Int) from fun _=>rfl]
  simp only [Nat.reducePow];omega
theorem aIf (n:Nat) (h:n≤256):(mB n).1<256∧mA (mB n).1=5∧eK (mB n).1=(mB n).2∧eP (mB n).1 (n % 256 ^ (mB n).2)=n:=by
 unfold mB
 by_cases a:n<16
 ·rw [Am a]
  dsimp only;obtain ⟨-,-,-,-,d1⟩:=TL (128+n) (by omega)
  rw [Nat.pow_zero,Nat.mod_one];obtain ⟨e1,e2,e3⟩:=d1 (by omega) (by omega)
  exact ⟨by omega,e1,e2,by omega⟩
 ·rw [Af a]
  dsimp only;refine ⟨by decide,by decide,by decide,?_⟩
  show eP 222 (n % 256 ^ 2)=n
  rw [show ∀v,eP 222 v=(v:Int) from fun _=>rfl]
  simp only [Nat.reducePow];omega
theorem wV {d:Nat} {x:ND} (h:aB (d+1) x=true) (hn:aO (d+1) x=true):(pHd x).1<256∧mA (pHd x).1=x.kind∧eK (pHd x).1=(pHd x).2∧eP (pHd x).1 (kO x % 256 ^ (pHd x).2)=gR x:=by
 obtain ⟨hi,hl,htx,hns⟩:=aX h;obtain ⟨hw,hni⟩:=cL hn;have h1:=fJ htx;unfold dD at hw;rw [Ak,Av,Av] at hw;have hk:=jA h;obtain ⟨k,b,n,t,ns,its⟩:=x;unfold nd0 at hk;simp only [ND.mk.injEq,ND.kind,ND.bool,ND.num,ND.text,ND.names,ND.items] at *;rcases hk with ⟨rfl,rfl,rfl,rfl,rfl,rfl⟩ | ⟨rfl,-,rfl,rfl,rfl,rfl⟩ | ⟨rfl,rfl,-,rfl,rfl,rfl⟩ | ⟨rfl,rfl,rfl,-,rfl,rfl⟩ | ⟨rfl,rfl,rfl,rfl,rfl,-⟩ | ⟨⟨rfl,rfl,rfl,rfl,-,-⟩,hlx⟩
 ·exact ⟨by decide,by decide,by decide,by decide⟩
 ·cases b <;> exact ⟨by decide,by decide,by decide,by decide⟩
 ·exact aIa n hw.1 hw.2
 ·exact NW t.size h1
 ·exact aIh its.length hl
 ·exact aIf its.length hl
theorem XM {x y:ND} {d e:Nat} {t t':Ub} (hx:aB (d+1) x=true) (nx:aO (d+1) x=true) (hy:aB (e+1) y=true) (ny:aO (e+1) y=true) (h:cZ (pHd x) (kO x)++t=cZ (pHd y) (kO y)++t'):x.kind=y.kind∧gR x=gR y∧t=t':=by
 obtain ⟨a1,a2,a3,a4⟩:=wV hx nx;obtain ⟨b1,b2,b3,b4⟩:=wV hy ny;unfold cZ at h;rw [Bm,Bm] at h;obtain ⟨h1,h2⟩:=List.cons.inj h;have h1:=Ad UInt8.toNat h1;rw [Be,Be] at h1;have hc:(pHd x).1=(pHd y).1:=by omega
 have hk:(pHd x).2=(pHd y).2:=by rw [←a3,←b3,hc]
 rw [←hk] at h2;obtain ⟨e1,e2⟩:=List.append_inj h2 (by rw [aY,aY])
 have e3:=Ad fZ e1;rw [iS,iS] at e3;rw [←hk,←e3,←hc] at b4;exact ⟨by rw [←a2,←b2,hc],by rw [←a4,←b4],e2⟩
def gT (s:Bt):Ub:=cZ (kL s.size) s.size++s.data.toList
def kK (W:ND→Ub) (x:ND):Ub:=
 if x.kind=3 then x.text.data.toList
 else if x.kind=4 then x.items.flatMap W
 else if x.kind=5 then (List.zipWith (fun s y=>gT s++W y) x.names x.items).flatten
 else []
def bL:Nat→ND→Ub
 | 0,_=>[]
 | d+1,x=>cZ (pHd x) (kO x)++kK (bL d) x
theorem gI (d:Nat) (x:ND):bL (d+1) x=cZ (pHd x) (kO x)++kK (bL d) x:=rfl
theorem VM {a b:Bt} {t t':Ub} (ha:a.size≤65536) (hb:b.size≤65536) (h:gT a++t=gT b++t'):a=b∧t=t':=by
 obtain ⟨a1,a2,a3,a4⟩:=NW a.size ha;obtain ⟨b1,b2,b3,b4⟩:=NW b.size hb;unfold gT cZ at h;rw [Aj,Aj,Bm,Bm] at h;obtain ⟨h1,h2⟩:=List.cons.inj h;have h1:=Ad UInt8.toNat h1;rw [Be,Be] at h1;have hc:(kL a.size).1=(kL b.size).1:=by omega
 have hk:(kL a.size).2=(kL b.size).2:=by rw [←a3,←b3,hc]
 rw [←hk] at h2;obtain ⟨e1,e2⟩:=List.append_inj h2 (by rw [aY,aY])
 have e3:=Ad fZ e1;rw [iS,iS] at e3;rw [←hk,←e3,←hc] at b4;have hs:a.size=b.size:=by have:=a4.symm.trans b4;omega
 obtain ⟨h3,h4⟩:=List.append_inj e2 (by rw [Ah,Ah];exact hs)
 exact ⟨mP h3,h4⟩
theorem IG {W:ND→Ub}:∀ (ns ms:List Bt) (xs ys:List ND) (t t':Ub),ns.length=xs.length→ms.length=ys.length→xs.length=ys.length→(∀s,s ∈ ns→s.size≤65536)→(∀s,s ∈ ms→s.size≤65536)→(∀x y t t',x ∈ xs→y ∈ ys→W x++t=W y++t'→x=y∧t=t') →
 (List.zipWith (fun s y=>gT s++W y) ns xs).flatten++t=(List.zipWith (fun s y=>gT s++W y) ms ys).flatten++t'→ns=ms∧xs=ys∧t=t'
 | [],[],[],[],t,t',_,_,_,_,_,_,h=>⟨rfl,rfl,h⟩
 | n::ns,m::ms,x::xs,y::ys,t,t',h1,h2,h3,hn,hm,hw,h=>by
  rw [Bg,Bg,Bp,Bp,Aj,Aj,Aj,Aj] at h;obtain ⟨rfl,h4⟩:=VM (hn n (by simp)) (hm m (by simp)) h
  obtain ⟨rfl,h5⟩:=hw x y _ _ (by simp) (by simp) h4
  obtain ⟨rfl,rfl,h6⟩:=IG ns ms xs ys t t' (by simpa using h1) (by simpa using h2) (by simpa using h3) (fun s hs=>hn s (by simp [hs])) (fun s hs=>hm s (by simp [hs])) (fun a b u u' ha hb=>hw a b u u' (by simp [ha]) (by simp [hb])) h5
  exact ⟨rfl,rfl,h6⟩
 | [],_,_::_,_,_,_,h,_,_,_,_,_,_=>by simp at h
 | _::_,_,[],_,_,_,h,_,_,_,_,_,_=>by simp at h
 | _,[],_,_::_,_,_,_,h,_,_,_,_,_=>by simp at h
 | _,_::_,_,[],_,_,_,h,_,_,_,_,_=>by simp at h
 | [],_::_,[],_::_,_,_,_,_,h,_,_,_,_=>by simp at h
theorem nS:∀ (d:Nat) (x y:ND) (t t':Ub),aB d x=true→aO d x=true→aB d y=true→aO d y=true→bL d x++t=bL d y++t'→x=y∧t=t'
 | 0,_,_,_,_,h,_,_,_,_=>by cases h
 | d+1,x,y,t,t',hx,nx,hy,ny,h=>by
  rw [gI,gI,Aj,Aj] at h;obtain ⟨hm,hc,hr⟩:=XM hx nx hy ny h;obtain ⟨ix,lx,tx,sx⟩:=aX hx;obtain ⟨iy,ly,ty,sy⟩:=aX hy;obtain ⟨wx,mx⟩:=cL nx;obtain ⟨wy,my⟩:=cL ny;have ih:∀a b u u',a ∈ x.items→b ∈ y.items→bL d a++u=bL d b++u'→a=b∧u=u':=fun a b u u' ha hb=>nS d a b u u' (ix a ha) (mx a ha) (iy b hb) (my b hb)
  have kx:=jA hx;have ky:=jA hy;obtain ⟨k,b,n,tt,ns,its⟩:=x;obtain ⟨k',b',n',tt',ns',its'⟩:=y;unfold nd0 at kx ky;simp only [ND.mk.injEq,ND.kind,ND.bool,ND.num,ND.text,ND.names,ND.items] at *;subst hm;unfold gR at hc;unfold kK at hr;simp only [ND.kind,ND.bool,ND.num,ND.text,ND.names,ND.items] at hc hr;rcases kx with ⟨rfl,rfl,rfl,rfl,rfl,rfl⟩ | ⟨rfl,-,rfl,rfl,rfl,rfl⟩ | ⟨rfl,rfl,-,rfl,rfl,rfl⟩ | ⟨rfl,rfl,rfl,-,rfl,rfl⟩ | ⟨rfl,rfl,rfl,rfl,rfl,-⟩ | ⟨⟨rfl,rfl,rfl,rfl,-,-⟩,hlx⟩ <;>
  simp at ky hc hr
  ·obtain ⟨rfl,rfl,rfl,rfl,rfl⟩:=ky;exact ⟨⟨rfl,rfl,rfl,rfl,rfl,rfl⟩,hr⟩
  ·obtain ⟨rfl,rfl,rfl,rfl⟩:=ky;refine ⟨⟨rfl,?_,rfl,rfl,rfl,rfl⟩,hr⟩;revert hc;cases b <;> cases b' <;> simp
  ·obtain ⟨rfl,rfl,rfl,rfl⟩:=ky;exact ⟨⟨rfl,rfl,hc,rfl,rfl,rfl⟩,hr⟩
  ·obtain ⟨rfl,rfl,rfl,rfl⟩:=ky
   obtain ⟨h3,h4⟩:=List.append_inj hr (by rw [Ah,Ah];exact_mod_cast hc)
   exact ⟨⟨rfl,rfl,rfl,mP h3,rfl,rfl⟩,h4⟩
  ·obtain ⟨rfl,rfl,rfl,rfl⟩:=ky
   obtain ⟨h3,h4⟩:=zU its its' t t' (by omega) ih hr
   exact ⟨⟨rfl,rfl,rfl,rfl,rfl,h3⟩,h4⟩
  ·obtain ⟨⟨rfl,rfl,rfl⟩,hly⟩:=ky
   obtain ⟨h3,h4,h5⟩:=IG ns ns' its its' t t' hlx hly (by omega) (fun s hs=>fJ (sx s hs)) (fun s hs=>fJ (sy s hs)) ih hr
   exact ⟨⟨rfl,rfl,rfl,rfl,h3,h4⟩,h5⟩
theorem MY {d:Nat} {x y:ND} (hx:eF d x=true) (hy:eF d y=true) (h:bL d x=bL d y):x=y:=
 (nS d x y [] [] (dU hx) (eZ hx) (dU hy) (eZ hy) (by rw [h])).1
end Go.Proofs.YtncdpanfefnjlaaGreatDoor
namespace Go.Proofs.YtncdpanfefnjlaaGreatDoor
open Go.Proofs.Tryz
open Go Go.ChangeShapes Go.WideShapes Go.ChangeAt Go.RowKit
theorem QE {h:Nat × Nat} {v:Nat} (hh:h.2≤8):(cZ h v).length≤9:=by unfold cZ;rw [Ag,aY];omega
def mpS (x:ND):Bt:=if aB 8 x then (if 65536<(bL 8 x).length then ⟨#[]⟩ else bC (bL 8 x)) else ⟨#[]⟩
def mpE (x:ND):Int:=if aB 8 x then (if 65536<(bL 8 x).length then 3 else 0) else 1
theorem zF {x:ND} (h:aB 8 x=false):mpS x=⟨#[]⟩∧mpE x=1:=by unfold mpS mpE;rw [h];exact ⟨rfl,rfl⟩
theorem tZ {x:ND} (h:aB 8 x=true) (hl:65536<(bL 8 x).length):mpS x=⟨#[]⟩∧mpE x=3:=by unfold mpS mpE;rw [h,Am rfl,Am rfl,Am hl,Am hl];exact ⟨rfl,rfl⟩
theorem pI {x:ND} (h:aB 8 x=true) (hl:¬65536<(bL 8 x).length):mpS x=bC (bL 8 x)∧mpE x=0:=by unfold mpS mpE;rw [h,Am rfl,Am rfl,Af hl,Af hl];exact ⟨rfl,rfl⟩
theorem VZ (x:ND):(mpS x).size≤65536:=by
 unfold mpS
 split
 ·split
  ·exact Ax _
  ·rw [eH];omega
 ·exact Ax _
def aEh (x:ND) (w:World) (e:Ending) (w':World):Prop:=e=.returned (.tuple #[.string (mpS x),Iz (mpE x)])∧Below w.heap.size w w'
theorem OX (s:Bt):(gT s).length≤6 * s.size+8:=by
 have h2:s.data.toList.length=s.size:=by rw [Ah];rfl
 unfold gT cZ;rw [Lg,Ag,aY,h2];unfold kL
 (repeat' split) <;> dsimp only <;> omega
theorem IF {W:ND→Ub} {c:ND→Nat}:∀ (ns:List Bt) (its:List ND),(∀y,y ∈ its→(W y).length≤c y)→(List.zipWith (fun s y=>gT s++W y) ns its).flatten.length≤(ns.map fun s=>6 * s.size+8).sum+(its.map fun y=>c y+1).sum
 | [],_,_=>by simp
 | _::_,[],_=>by simp
 | s::ss,y::ys,h=>by
  have ih:=IF ss ys (fun z hz=>h z (by simp [hz]))
  have h1:=OX s;have h3:=h y (by simp)
  rw [Bg,Bp,Lg,Lg,Bj,Cg,Bj,Cg];omega
theorem aAg (x:ND):(pHd x).2≤8:=by
 unfold pHd qR kL uB mB
 (repeat' split) <;> dsimp only <;> omega
theorem vA:∀ (d:Nat) (x:ND),aB d x=true→(bL d x).length≤bG d x
 | 0,_,h=>by cases h
 | d+1,x,h=>by
  obtain ⟨hi,hl,htx,hns⟩:=aX h;have ih:∀y,y ∈ x.items→(bL d y).length≤bG d y:=fun y hy=>vA d y (hi y hy)
  have hts:x.text.data.toList.length=x.text.size:=by rw [Ah];rfl
  have h9:=QE (v:=kO x) (aAg x);have h1:=uK x.items ih;have h2:=IF (W:=bL d) x.names x.items ih;rw [eC,gI,Lg];unfold kK
  split
  ·omega
  ·split
   ·omega
   ·split
    ·omega
    ·simp;omega
def aEi (v:Nat):Prop:=(128≤v∧v<192)∨v=217∨v=218∨v=219∨v=220∨v=222
instance (v:Nat):Decidable (aEi v):=by unfold aEi;infer_instance
theorem YO (l:Ub) (k:Nat) (hk:k≤4):fZ (l.take k)<4294967296:=by
 have h1:=nH (l.take k);have h2:(l.take k).length≤4:=by rw [Ba];omega
 have h3:(256:Nat) ^ (l.take k).length≤256 ^ 4:=Cf (by decide) h2
 have h4:(256:Nat) ^ 4=4294967296:=by decide
 omega
end Go.Proofs.YtncdpanfefnjlaaGreatDoor
namespace Go.Proofs.YtncdpanfefnjlaaGreatDoor
open Go.Proofs.Tryz
def txM (s:Bt):ND:=.mk 3 false 0 s [] []
def EK (s:Bt):List Bt:=[bC (cZ (kL s.size) s.size),s]
def sY (V:ND→List Bt) (x:ND):List (List Bt):=if x.kind=5 then List.zipWith (fun s y=>EK s++V y) x.names x.items else x.items.map V
def pcs:Nat→ND→List Bt
 | 0,_=>[]
 | d+1,x=>bC (cZ (pHd x) (kO x))::x.text::(sY (pcs d) x).flatten
theorem mI (d:Nat) (x:ND):pcs (d+1) x=bC (cZ (pHd x) (kO x))::x.text::(sY (pcs d) x).flatten:=rfl
theorem SJ (d:Nat) (s:Bt):pcs (d+1) (txM s)=EK s:=rfl
def kV (l:List Bt):Ub:=l.flatMap fun s=>s.data.toList
theorem oU (a b:List Bt):kV (a++b)=kV a++kV b:=by unfold kV;rw [List.flatMap_append]
theorem pL (a:Bt) (b:List Bt):kV (a::b)=a.data.toList++kV b:=by unfold kV;rw [Co]
theorem MJ {V:ND→List Bt} {W:ND→Ub}:∀ (its:List ND),(∀y,y ∈ its→kV (V y)=W y)→kV (its.map V).flatten=its.flatMap W
 | [],_=>rfl
 | y::u,h=>by
  rw [Bj,Bp,oU,Co,h y (by simp),MJ u fun z hz=>h z (by simp [hz])]
theorem aDi (s:Bt):kV (EK s)=gT s:=by
 unfold EK gT;rw [pL,pL,iE];simp [kV]
theorem MI {V:ND→List Bt} {W:ND→Ub}:∀ (ns:List Bt) (its:List ND),(∀y,y ∈ its→kV (V y)=W y)→kV (List.zipWith (fun s y=>EK s++V y) ns its).flatten=(List.zipWith (fun s y=>gT s++W y) ns its).flatten
 | [],_,_=>rfl
 | s::t,[],_=>rfl
 | s::t,y::u,h=>by
  rw [Bg,Bg,Bp,Bp,oU,oU,aDi,h y (by simp),MI t u fun z hz=>h z (by simp [hz])]
theorem EV:∀ (d:Nat) (x:ND),aB d x=true→kV (pcs d x)=bL d x
 | 0,_,h=>by cases h
 | d+1,x,h=>by
  obtain ⟨hi,-,-,-⟩:=aX h;have hk:=jA h;have ih:∀y,y ∈ x.items→kV (pcs d y)=bL d y:=fun y hy=>EV d y (hi y hy)
  rw [mI,gI,pL,pL,iE]
  congr 1
  unfold sY kK;obtain ⟨k,b,n,t,ns,its⟩:=x;unfold nd0 at hk;simp only [ND.mk.injEq,ND.kind,ND.bool,ND.num,ND.text,ND.names,ND.items] at *;rcases hk with ⟨rfl,rfl,rfl,rfl,rfl,rfl⟩ | ⟨rfl,-,rfl,rfl,rfl,rfl⟩ | ⟨rfl,rfl,-,rfl,rfl,rfl⟩ | ⟨rfl,rfl,rfl,-,rfl,rfl⟩ | ⟨rfl,rfl,rfl,rfl,rfl,-⟩ | ⟨⟨rfl,rfl,rfl,rfl,-,-⟩,hlx⟩
  ·rfl
  ·rfl
  ·rfl
  ·simp [kV]
  ·simp only [Int.reduceEq,if_false,if_true,↓reduceIte]
   rw [MJ its ih];rfl
  ·simp only [Int.reduceEq,if_false,if_true,↓reduceIte]
   rw [MI ns its ih];rfl
theorem aFl {d:Nat} {x:ND} (h:aB d x=true) (q:List Bt) (hq:q <+: pcs d x):(kV q).length≤(bL d x).length:=by
 rw [←EV d x h];obtain ⟨t,ht⟩:=hq;rw [←ht,oU,Lg];omega
theorem aDe {V:ND→List Bt} {x:ND} (hk:x.kind ≠ 5) {j:Nat} {y:ND} (hy:x.items[j]?=some y):(sY V x)[j]?=some (V y):=by
 unfold sY;rw [Af hk,Bc,hy];rfl
theorem aGo {V:ND→List Bt} {x:ND} (hk:x.kind=5) {j:Nat} {y:ND} {s:Bt} (hy:x.items[j]?=some y) (hs:x.names[j]?=some s):(sY V x)[j]?=some (EK s++V y):=by
 unfold sY;rw [Am hk,List.getElem?_zipWith,hs,hy]
theorem aGp {V:ND→List Bt} {x:ND} (hk:x.kind=5→x.names.length=x.items.length):(sY V x).length=x.items.length:=by
 unfold sY
 by_cases h:x.kind=5
 ·rw [Am h,List.length_zipWith,hk h];omega
 ·rw [Af h,Bi]
def hG (d:Nat) (x:ND) (j:Nat):List Bt:=bC (cZ (pHd x) (kO x))::x.text::((sY (pcs d) x).take j).flatten
theorem UO (d:Nat) (x:ND):hG d x 0=[bC (cZ (pHd x) (kO x)),x.text]:=rfl
theorem mG {d:Nat} {x:ND} {j:Nat} {c:List Bt} (h:(sY (pcs d) x)[j]?=some c):hG d x (j+1)=hG d x j++c:=by
 unfold hG;rw [Bf,h];simp
theorem ZM {d:Nat} {x:ND} {j:Nat} (h:(sY (pcs d) x).length≤j):hG d x j=pcs (d+1) x:=by
 unfold hG;rw [Ao h,mI]
theorem xW (d:Nat) (x:ND) (j:Nat):hG d x j <+: pcs (d+1) x:=by
 refine ⟨((sY (pcs d) x).drop j).flatten,?_⟩;unfold hG;rw [mI,Bm,Bm,←List.flatten_append,Dh]
theorem tP {d:Nat} {x:ND} {j:Nat} {c q:List Bt} (h:(sY (pcs d) x)[j]?=some c) (hq:q <+: c):hG d x j++q <+: pcs (d+1) x:=by
 refine List.IsPrefix.trans ?_ (xW d x (j+1));rw [mG h];exact (List.prefix_append_right_inj _).2 hq
theorem VY {d:Nat} {x:ND} (h:aB (d+1) x=true) (hk:x.kind=5):x.names.length=x.items.length:=by
 rcases jA h with e | e | e | e | e | ⟨-,e⟩
 ·rw [e] at hk;cases hk
 ·rw [e] at hk;cases hk
 ·rw [e] at hk;cases hk
 ·rw [e] at hk;cases hk
 ·rw [e] at hk;cases hk
 ·exact e
theorem aHv {d:Nat} {s:Bt} (h:aV s=true):aB (d+1) (txM s)=true∧aO (d+1) (txM s)=true:=by
 refine ⟨?_,by rw [cJ];rfl⟩
 rw [cQ];unfold eQ txM;simp [h,ND.kind,ND.bool,ND.num,ND.text,ND.names,ND.items]
end Go.Proofs.YtncdpanfefnjlaaGreatDoor