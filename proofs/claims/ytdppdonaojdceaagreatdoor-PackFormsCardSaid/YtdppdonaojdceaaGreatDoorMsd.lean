/- The third serialisation as data: heads, the bytes of nodes, and that nothing else has them. No program. Then: The program's table of scales as data, and what a row writes. No program. -/
import Derived.Test.YtdppdonaojdceaaGreatDoorCw
set_option linter.unusedVariables false
set_option linter.unusedSimpArgs false
namespace Go.Proofs.YtdppdonaojdceaaGreatDoor
def u64N (z:Int):Nat:=(z % 18446744073709551616).toNat
def numH (z:Int):Nat × Nat:=if -32≤z∧z<128 then (u64N z % 256,0) else if 0<z then (if z<256 then (204,1) else if z<65536 then (205,2) else if z<4294967296 then (206,4) else (207,8)) else if -128≤z then (208,1) else if -32768≤z then (209,2) else if -2147483648≤z then (210,4) else (211,8)
def txtH (n:Nat):Nat × Nat:=if n<32 then (160+n,0) else if n<256 then (217,1) else if n<65536 then (218,2) else (219,4)
def lstH (n:Nat):Nat × Nat:=if n<16 then (144+n,0) else (220,2)
def mapH (n:Nat):Nat × Nat:=if n<16 then (128+n,0) else (222,2)
def headP (h:Nat × Nat) (v:Nat):List UInt8:=UInt8.ofNat h.1::bigL v h.2
def pHd (x:ND):Nat × Nat:=if x.kind=1 then (if x.bool then (195,0) else (194,0)) else if x.kind=2 then numH x.num else if x.kind=3 then txtH x.text.size else if x.kind=4 then lstH x.items.length else if x.kind=5 then mapH x.items.length else (192,0)
def pVal (x:ND):Nat:=if x.kind=2 then u64N x.num else if x.kind=3 then x.text.size else if x.kind=4 then x.items.length else if x.kind=5 then x.items.length else 0
def pPay (x:ND):Int:=if x.kind=1 then (if x.bool then 1 else 0) else if x.kind=2 then x.num else if x.kind=3 then x.text.size else if x.kind=4 then x.items.length else if x.kind=5 then x.items.length else 0
def pCls (c:Nat):Int:=if c<128 then 2 else if c<144 then 5 else if c<160 then 4 else if c<192 then 3 else if c=192 then 0 else if c<196 then 1 else if c<212 then 2 else if c<220 then 3 else if c=220 then 4 else if c=222 then 5 else 2
def pWid (c:Nat):Nat:=if c=204∨c=208∨c=217 then 1 else if c=205∨c=209∨c=218∨c=220∨c=222 then 2 else if c=206∨c=210∨c=219 then 4 else if c=207∨c=211 then 8 else 0
def pDec (c v:Nat):Int:=if c<128 then c else if c<144 then c - 128 else if c<160 then c - 144 else if c<192 then c - 160 else if c=195 then 1 else if c<208 then v else if c=208 then v - 256 else if c=209 then v - 65536 else if c=210 then v - 4294967296 else if c=211 then v - 18446744073709551616 else if c<224 then v else c - 256
theorem dec_0:∀c:Nat,c<256→(c<128→pCls c=2∧pWid c=0∧pDec c 0=c)∧(224≤c→pCls c=2∧pWid c=0∧pDec c 0=(c:Int) - 256)∧(160≤c→c<192→pCls c=3∧pWid c=0∧pDec c 0=(c:Int) - 160)∧(144≤c→c<160→pCls c=4∧pWid c=0∧pDec c 0=(c:Int) - 144)∧(128≤c→c<144→pCls c=5∧pWid c=0∧pDec c 0=(c:Int) - 128):=by
 have:∀c:Fin 256,(c.1<128→pCls c.1=2∧pWid c.1=0∧pDec c.1 0=c.1)∧(224≤c.1→pCls c.1=2∧pWid c.1=0∧pDec c.1 0=(c.1:Int) - 256)∧(160≤c.1→c.1<192→pCls c.1=3∧pWid c.1=0∧pDec c.1 0=(c.1:Int) - 160)∧(144≤c.1→c.1<160→pCls c.1=4∧pWid c.1=0∧pDec c.1 0=(c.1:Int) - 144)∧(128≤c.1→c.1<144→pCls c.1=5∧pWid c.1=0∧pDec c.1 0=(c.1:Int) - 128):=by decide +kernel
 exact fun c h=>this ⟨c,h⟩
theorem num_ok (z:Int) (h1:-9223372036854775808≤z) (h2:z≤9223372036854775807):(numH z).1<256∧pCls (numH z).1=2∧pWid (numH z).1=(numH z).2∧pDec (numH z).1 (u64N z % 256 ^ (numH z).2)=z:=by
 unfold numH
 by_cases a:-32≤z∧z<128
 ·rw [if_pos a]
  dsimp only
  have hc:u64N z % 256<128∧(u64N z % 256:Nat)=z∨224≤u64N z % 256∧u64N z % 256<256∧(u64N z % 256:Nat)=z+256:=by unfold u64N;omega
  generalize u64N z % 256=c at hc ⊢
  obtain ⟨d1,d2,-⟩:=dec_0 c (by omega)
  rw [Nat.pow_zero,Nat.mod_one]
  rcases hc with hc | hc
  ·obtain ⟨e1,e2,e3⟩:=d1 hc.1
   exact ⟨by omega,e1,e2,by omega⟩
  ·obtain ⟨e1,e2,e3⟩:=d2 hc.1
   exact ⟨by omega,e1,e2,by omega⟩
 ·rw [if_neg a]
  by_cases p:0<z
  ·rw [if_pos p]
   by_cases q:z<256
   ·rw [if_pos q]
    refine ⟨by decide,by decide,by decide,?_⟩
    show pDec 204 (u64N z % 256 ^ 1)=z
    rw [show ∀v,pDec 204 v=(v:Int) from fun _=>rfl]
    unfold u64N
    simp only [Nat.reducePow]
    omega
   rw [if_neg q]
   by_cases q:z<65536
   ·rw [if_pos q]
    refine ⟨by decide,by decide,by decide,?_⟩
    show pDec 205 (u64N z % 256 ^ 2)=z
    rw [show ∀v,pDec 205 v=(v:Int) from fun _=>rfl]
    unfold u64N
    simp only [Nat.reducePow]
    omega
   rw [if_neg q]
   by_cases q:z<4294967296
   ·rw [if_pos q]
    refine ⟨by decide,by decide,by decide,?_⟩
    show pDec 206 (u64N z % 256 ^ 4)=z
    rw [show ∀v,pDec 206 v=(v:Int) from fun _=>rfl]
    unfold u64N
    simp only [Nat.reducePow]
    omega
   rw [if_neg q]
   refine ⟨by decide,by decide,by decide,?_⟩
   show pDec 207 (u64N z % 256 ^ 8)=z
   rw [show ∀v,pDec 207 v=(v:Int) from fun _=>rfl]
   unfold u64N
   simp only [Nat.reducePow]
   omega
  ·rw [if_neg p]
   by_cases q:-128≤z
   ·rw [if_pos q]
    refine ⟨by decide,by decide,by decide,?_⟩
    show pDec 208 (u64N z % 256 ^ 1)=z
    rw [show ∀v,pDec 208 v=(v:Int) - 256 from fun _=>rfl]
    unfold u64N
    simp only [Nat.reducePow]
    omega
   rw [if_neg q]
   by_cases q:-32768≤z
   ·rw [if_pos q]
    refine ⟨by decide,by decide,by decide,?_⟩
    show pDec 209 (u64N z % 256 ^ 2)=z
    rw [show ∀v,pDec 209 v=(v:Int) - 65536 from fun _=>rfl]
    unfold u64N
    simp only [Nat.reducePow]
    omega
   rw [if_neg q]
   by_cases q:-2147483648≤z
   ·rw [if_pos q]
    refine ⟨by decide,by decide,by decide,?_⟩
    show pDec 210 (u64N z % 256 ^ 4)=z
    rw [show ∀v,pDec 210 v=(v:Int) - 4294967296 from fun _=>rfl]
    unfold u64N
    simp only [Nat.reducePow]
    omega
   rw [if_neg q]
   refine ⟨by decide,by decide,by decide,?_⟩
   show pDec 211 (u64N z % 256 ^ 8)=z
   rw [show ∀v,pDec 211 v=(v:Int) - 18446744073709551616 from fun _=>rfl]
   unfold u64N
   simp only [Nat.reducePow]
   omega
theorem txt_ok (n:Nat) (h:n≤65536):(txtH n).1<256∧pCls (txtH n).1=3∧pWid (txtH n).1=(txtH n).2∧pDec (txtH n).1 (n % 256 ^ (txtH n).2)=n:=by
 unfold txtH
 by_cases a:n<32
 ·rw [if_pos a]
  dsimp only
  obtain ⟨-,-,d1,-⟩:=dec_0 (160+n) (by omega)
  rw [Nat.pow_zero,Nat.mod_one]
  obtain ⟨e1,e2,e3⟩:=d1 (by omega) (by omega)
  exact ⟨by omega,e1,e2,by omega⟩
 ·rw [if_neg a]
  by_cases q:n<256
  ·rw [if_pos q]
   refine ⟨by decide,by decide,by decide,?_⟩
   show pDec 217 (n % 256 ^ 1)=n
   rw [show ∀v,pDec 217 v=(v:Int) from fun _=>rfl]
   simp only [Nat.reducePow]
   omega
  rw [if_neg q]
  by_cases q:n<65536
  ·rw [if_pos q]
   refine ⟨by decide,by decide,by decide,?_⟩
   show pDec 218 (n % 256 ^ 2)=n
   rw [show ∀v,pDec 218 v=(v:Int) from fun _=>rfl]
   simp only [Nat.reducePow]
   omega
  rw [if_neg q]
  refine ⟨by decide,by decide,by decide,?_⟩
  show pDec 219 (n % 256 ^ 4)=n
  rw [show ∀v,pDec 219 v=(v:Int) from fun _=>rfl]
  simp only [Nat.reducePow]
  omega
theorem lst_ok (n:Nat) (h:n≤256):(lstH n).1<256∧pCls (lstH n).1=4∧pWid (lstH n).1=(lstH n).2∧pDec (lstH n).1 (n % 256 ^ (lstH n).2)=n:=by
 unfold lstH
 by_cases a:n<16
 ·rw [if_pos a]
  dsimp only
  obtain ⟨-,-,-,d1,-⟩:=dec_0 (144+n) (by omega)
  rw [Nat.pow_zero,Nat.mod_one]
  obtain ⟨e1,e2,e3⟩:=d1 (by omega) (by omega)
  exact ⟨by omega,e1,e2,by omega⟩
 ·rw [if_neg a]
  dsimp only
  refine ⟨by decide,by decide,by decide,?_⟩
  show pDec 220 (n % 256 ^ 2)=n
  rw [show ∀v,pDec 220 v=(v:Int) from fun _=>rfl]
  simp only [Nat.reducePow]
  omega
theorem map_ok (n:Nat) (h:n≤256):(mapH n).1<256∧pCls (mapH n).1=5∧pWid (mapH n).1=(mapH n).2∧pDec (mapH n).1 (n % 256 ^ (mapH n).2)=n:=by
 unfold mapH
 by_cases a:n<16
 ·rw [if_pos a]
  dsimp only
  obtain ⟨-,-,-,-,d1⟩:=dec_0 (128+n) (by omega)
  rw [Nat.pow_zero,Nat.mod_one]
  obtain ⟨e1,e2,e3⟩:=d1 (by omega) (by omega)
  exact ⟨by omega,e1,e2,by omega⟩
 ·rw [if_neg a]
  dsimp only
  refine ⟨by decide,by decide,by decide,?_⟩
  show pDec 222 (n % 256 ^ 2)=n
  rw [show ∀v,pDec 222 v=(v:Int) from fun _=>rfl]
  simp only [Nat.reducePow]
  omega
theorem head_ok {d:Nat} {x:ND} (h:validN (d+1) x=true) (hn:numsB (d+1) x=true):(pHd x).1<256∧pCls (pHd x).1=x.kind∧pWid (pHd x).1=(pHd x).2∧pDec (pHd x).1 (pVal x % 256 ^ (pHd x).2)=pPay x:=by
 obtain ⟨hi,hl,htx,hns⟩:=validN_parts h
 obtain ⟨hw,hni⟩:=numsB_parts hn
 have h1:=textOk_le htx
 unfold wideI at hw
 rw [Bool.and_eq_true,decide_eq_true_eq,decide_eq_true_eq] at hw
 have hk:=kinds h
 obtain ⟨k,b,n,t,ns,its⟩:=x
 unfold nd0 at hk
 simp only [ND.mk.injEq,ND.kind,ND.bool,ND.num,ND.text,ND.names,ND.items] at *
 rcases hk with ⟨rfl,rfl,rfl,rfl,rfl,rfl⟩ | ⟨rfl,-,rfl,rfl,rfl,rfl⟩ | ⟨rfl,rfl,-,rfl,rfl,rfl⟩ | ⟨rfl,rfl,rfl,-,rfl,rfl⟩ | ⟨rfl,rfl,rfl,rfl,rfl,-⟩ | ⟨⟨rfl,rfl,rfl,rfl,-,-⟩,hlx⟩
 ·exact ⟨by decide,by decide,by decide,by decide⟩
 ·cases b <;> exact ⟨by decide,by decide,by decide,by decide⟩
 ·exact num_ok n hw.1 hw.2
 ·exact txt_ok t.size h1
 ·exact lst_ok its.length hl
 ·exact map_ok its.length hl
theorem headP_app {x y:ND} {d e:Nat} {t t':List UInt8} (hx:validN (d+1) x=true) (nx:numsB (d+1) x=true) (hy:validN (e+1) y=true) (ny:numsB (e+1) y=true) (h:headP (pHd x) (pVal x)++t=headP (pHd y) (pVal y)++t'):x.kind=y.kind∧pPay x=pPay y∧t=t':=by
 obtain ⟨a1,a2,a3,a4⟩:=head_ok hx nx
 obtain ⟨b1,b2,b3,b4⟩:=head_ok hy ny
 unfold headP at h
 rw [List.cons_append,List.cons_append] at h
 obtain ⟨h1,h2⟩:=List.cons.inj h
 have h1:=congrArg UInt8.toNat h1
 rw [UInt8.toNat_ofNat',UInt8.toNat_ofNat'] at h1
 have hc:(pHd x).1=(pHd y).1:=by omega
 have hk:(pHd x).2=(pHd y).2:=by rw [←a3,←b3,hc]
 rw [←hk] at h2
 obtain ⟨e1,e2⟩:=List.append_inj h2 (by rw [bigL_length,bigL_length])
 have e3:=congrArg bigV e1
 rw [bigV_bigL,bigV_bigL] at e3
 rw [←hk,←e3,←hc] at b4
 exact ⟨by rw [←a2,←b2,hc],by rw [←a4,←b4],e2⟩
def pText (s:ByteArray):List UInt8:=headP (txtH s.size) s.size++s.data.toList
def bodyM (W:ND→List UInt8) (x:ND):List UInt8:=
 if x.kind=3 then x.text.data.toList
 else if x.kind=4 then x.items.flatMap W
 else if x.kind=5 then (List.zipWith (fun s y=>pText s++W y) x.names x.items).flatten
 else []
def writeP:Nat→ND→List UInt8
 | 0,_=>[]
 | d+1,x=>headP (pHd x) (pVal x)++bodyM (writeP d) x
theorem writeP_succ (d:Nat) (x:ND):writeP (d+1) x=headP (pHd x) (pVal x)++bodyM (writeP d) x:=rfl
theorem pText_inj {a b:ByteArray} {t t':List UInt8} (ha:a.size≤65536) (hb:b.size≤65536) (h:pText a++t=pText b++t'):a=b∧t=t':=by
 obtain ⟨a1,a2,a3,a4⟩:=txt_ok a.size ha
 obtain ⟨b1,b2,b3,b4⟩:=txt_ok b.size hb
 unfold pText headP at h
 rw [List.append_assoc,List.append_assoc,List.cons_append,List.cons_append] at h
 obtain ⟨h1,h2⟩:=List.cons.inj h
 have h1:=congrArg UInt8.toNat h1
 rw [UInt8.toNat_ofNat',UInt8.toNat_ofNat'] at h1
 have hc:(txtH a.size).1=(txtH b.size).1:=by omega
 have hk:(txtH a.size).2=(txtH b.size).2:=by rw [←a3,←b3,hc]
 rw [←hk] at h2
 obtain ⟨e1,e2⟩:=List.append_inj h2 (by rw [bigL_length,bigL_length])
 have e3:=congrArg bigV e1
 rw [bigV_bigL,bigV_bigL] at e3
 rw [←hk,←e3,←hc] at b4
 have hs:a.size=b.size:=by have:=a4.symm.trans b4;omega
 obtain ⟨h3,h4⟩:=List.append_inj e2 (by rw [Array.length_toList,Array.length_toList];exact hs)
 exact ⟨data_inj h3,h4⟩
theorem zipP_inj {W:ND→List UInt8}:∀ (ns ms:List ByteArray) (xs ys:List ND) (t t':List UInt8),ns.length=xs.length→ms.length=ys.length→xs.length=ys.length→(∀s,s ∈ ns→s.size≤65536)→(∀s,s ∈ ms→s.size≤65536)→(∀x y t t',x ∈ xs→y ∈ ys→W x++t=W y++t'→x=y∧t=t') →
 (List.zipWith (fun s y=>pText s++W y) ns xs).flatten++t=(List.zipWith (fun s y=>pText s++W y) ms ys).flatten++t'→ns=ms∧xs=ys∧t=t'
 | [],[],[],[],t,t',_,_,_,_,_,_,h=>⟨rfl,rfl,h⟩
 | n::ns,m::ms,x::xs,y::ys,t,t',h1,h2,h3,hn,hm,hw,h=>by
  rw [List.zipWith_cons_cons,List.zipWith_cons_cons,List.flatten_cons,List.flatten_cons,List.append_assoc,List.append_assoc,List.append_assoc,List.append_assoc] at h
  obtain ⟨rfl,h4⟩:=pText_inj (hn n (by simp)) (hm m (by simp)) h
  obtain ⟨rfl,h5⟩:=hw x y _ _ (by simp) (by simp) h4
  obtain ⟨rfl,rfl,h6⟩:=zipP_inj ns ms xs ys t t' (by simpa using h1) (by simpa using h2) (by simpa using h3) (fun s hs=>hn s (by simp [hs])) (fun s hs=>hm s (by simp [hs])) (fun a b u u' ha hb=>hw a b u u' (by simp [ha]) (by simp [hb])) h5
  exact ⟨rfl,rfl,h6⟩
 | [],_,_::_,_,_,_,h,_,_,_,_,_,_=>by simp at h
 | _::_,_,[],_,_,_,h,_,_,_,_,_,_=>by simp at h
 | _,[],_,_::_,_,_,_,h,_,_,_,_,_=>by simp at h
 | _,_::_,_,[],_,_,_,h,_,_,_,_,_=>by simp at h
 | [],_::_,[],_::_,_,_,_,_,h,_,_,_,_=>by simp at h
theorem writeP_app_inj:∀ (d:Nat) (x y:ND) (t t':List UInt8),validN d x=true→numsB d x=true→validN d y=true→numsB d y=true→writeP d x++t=writeP d y++t'→x=y∧t=t'
 | 0,_,_,_,_,h,_,_,_,_=>by cases h
 | d+1,x,y,t,t',hx,nx,hy,ny,h=>by
  rw [writeP_succ,writeP_succ,List.append_assoc,List.append_assoc] at h
  obtain ⟨hm,hc,hr⟩:=headP_app hx nx hy ny h
  obtain ⟨ix,lx,tx,sx⟩:=validN_parts hx
  obtain ⟨iy,ly,ty,sy⟩:=validN_parts hy
  obtain ⟨wx,mx⟩:=numsB_parts nx
  obtain ⟨wy,my⟩:=numsB_parts ny
  have ih:∀a b u u',a ∈ x.items→b ∈ y.items→writeP d a++u=writeP d b++u'→a=b∧u=u':=fun a b u u' ha hb=>writeP_app_inj d a b u u' (ix a ha) (mx a ha) (iy b hb) (my b hb)
  have kx:=kinds hx
  have ky:=kinds hy
  obtain ⟨k,b,n,tt,ns,its⟩:=x
  obtain ⟨k',b',n',tt',ns',its'⟩:=y
  unfold nd0 at kx ky
  simp only [ND.mk.injEq,ND.kind,ND.bool,ND.num,ND.text,ND.names,ND.items] at *
  subst hm
  unfold pPay at hc
  unfold bodyM at hr
  simp only [ND.kind,ND.bool,ND.num,ND.text,ND.names,ND.items] at hc hr
  rcases kx with ⟨rfl,rfl,rfl,rfl,rfl,rfl⟩ | ⟨rfl,-,rfl,rfl,rfl,rfl⟩ | ⟨rfl,rfl,-,rfl,rfl,rfl⟩ | ⟨rfl,rfl,rfl,-,rfl,rfl⟩ | ⟨rfl,rfl,rfl,rfl,rfl,-⟩ | ⟨⟨rfl,rfl,rfl,rfl,-,-⟩,hlx⟩ <;>
  simp at ky hc hr
  ·obtain ⟨rfl,rfl,rfl,rfl,rfl⟩:=ky;exact ⟨⟨rfl,rfl,rfl,rfl,rfl,rfl⟩,hr⟩
  ·obtain ⟨rfl,rfl,rfl,rfl⟩:=ky;refine ⟨⟨rfl,?_,rfl,rfl,rfl,rfl⟩,hr⟩;revert hc;cases b <;> cases b' <;> simp
  ·obtain ⟨rfl,rfl,rfl,rfl⟩:=ky;exact ⟨⟨rfl,rfl,hc,rfl,rfl,rfl⟩,hr⟩
  ·obtain ⟨rfl,rfl,rfl,rfl⟩:=ky
   obtain ⟨h3,h4⟩:=List.append_inj hr (by rw [Array.length_toList,Array.length_toList];exact_mod_cast hc)
   exact ⟨⟨rfl,rfl,rfl,data_inj h3,rfl,rfl⟩,h4⟩
  ·obtain ⟨rfl,rfl,rfl,rfl⟩:=ky
   obtain ⟨h3,h4⟩:=flat_inj its its' t t' (by omega) ih hr
   exact ⟨⟨rfl,rfl,rfl,rfl,rfl,h3⟩,h4⟩
  ·obtain ⟨⟨rfl,rfl,rfl⟩,hly⟩:=ky
   obtain ⟨h3,h4,h5⟩:=zipP_inj ns ns' its its' t t' hlx hly (by omega) (fun s hs=>textOk_le (sx s hs)) (fun s hs=>textOk_le (sy s hs)) ih hr
   exact ⟨⟨rfl,rfl,rfl,rfl,h3,h4⟩,h5⟩
structure ScR where
 kind:Int
 least:Int
 count:Int
 first:Int
 wide:Int
 widths:List Int
def scTab:List ScR:=[⟨0,0,1,192,0,[]⟩,⟨1,0,2,194,0,[]⟩,⟨2,0,128,0,204,[1,2,4,8]⟩,⟨2,-32,32,224,208,[1,2,4,8]⟩,⟨3,0,32,160,217,[1,2,4]⟩,⟨4,0,16,144,220,[2]⟩,⟨5,0,16,128,222,[2]⟩]
def scR (i:Nat):ScR:=scTab.getD i ⟨0,0,0,0,0,[]⟩
theorem scR_any {P:ScR→Prop} (h0:P ⟨0,0,1,192,0,[]⟩) (h1:P ⟨1,0,2,194,0,[]⟩) (h2:P ⟨2,0,128,0,204,[1,2,4,8]⟩) (h3:P ⟨2,-32,32,224,208,[1,2,4,8]⟩) (h4:P ⟨3,0,32,160,217,[1,2,4]⟩) (h5:P ⟨4,0,16,144,220,[2]⟩) (h6:P ⟨5,0,16,128,222,[2]⟩):∀i,i<7→P (scR i)
 | 0,_=>h0
 | 1,_=>h1
 | 2,_=>h2
 | 3,_=>h3
 | 4,_=>h4
 | 5,_=>h5
 | 6,_=>h6
 | n+7,h=>absurd h (by omega)
def fitZ (z k:Int):Bool:=if k=1 then decide (-128≤z∧z<256) else if k=2 then decide (-32768≤z∧z<65536) else if k=4 then decide (-2147483648≤z∧z<4294967296) else true
def sWide (b z:Int):List Int→Nat→List UInt8
 | [],_=>[]
 | k::t,j=>if fitZ z k then UInt8.ofNat (b.toNat+j)::bigL (u64N z) k.toNat else sWide b z t (j+1)
def sText (r:ScR) (z:Int):List UInt8:=if r.least≤z∧z<r.least+r.count then [UInt8.ofNat (r.first+(z - r.least)).toNat] else sWide r.wide z r.widths 0
def sIx (x:ND):Nat:=if x.kind=0 then 0 else if x.kind=1 then 1 else if x.kind=2 then (if x.num<0 then 3 else 2) else if x.kind=3 then 4 else if x.kind=4 then 5 else 6
theorem u64_mod (z:Int) (h1:-9223372036854775808≤z) (h2:z≤9223372036854775807):u64N z % 256=(z % 256).toNat:=by unfold u64N;omega
theorem sText_pos (z:Int) (h1:0≤z) (h2:z≤9223372036854775807):sText (scR 2) z=headP (numH z) (u64N z):=by
 show (if (0:Int)≤z∧z<0+128 then [UInt8.ofNat ((0:Int)+(z - 0)).toNat] else sWide 204 z [1,2,4,8] 0)=_
 unfold numH headP
 by_cases a:z<128
 ·rw [if_pos ⟨h1,by omega⟩,if_pos ⟨by omega,a⟩]
  dsimp only
  rw [u64_mod z (by omega) h2,show (0+(z - 0)).toNat=(z % 256).toNat by omega]
  rfl
 ·rw [if_neg (by omega),if_neg (by omega),if_pos (by omega)]
  unfold sWide
  by_cases b:z<256
  ·rw [if_pos b,show fitZ z 1=true by unfold fitZ;simp;omega];rfl
  rw [if_neg b,show fitZ z 1=false by unfold fitZ;simp;omega]
  unfold sWide
  by_cases b:z<65536
  ·rw [if_pos b,show fitZ z 2=true by unfold fitZ;simp;omega];rfl
  rw [if_neg b,show fitZ z 2=false by unfold fitZ;simp;omega]
  unfold sWide
  by_cases b:z<4294967296
  ·rw [if_pos b,show fitZ z 4=true by unfold fitZ;simp;omega];rfl
  rw [if_neg b,show fitZ z 4=false by unfold fitZ;simp;omega]
  rfl
theorem sText_neg (z:Int) (h1:-9223372036854775808≤z) (h2:z<0):sText (scR 3) z=headP (numH z) (u64N z):=by
 show (if (-32:Int)≤z∧z < -32+32 then [UInt8.ofNat ((224:Int)+(z - -32)).toNat] else sWide 208 z [1,2,4,8] 0)=_
 unfold numH headP
 by_cases a:-32≤z
 ·rw [if_pos ⟨a,by omega⟩,if_pos ⟨by omega,by omega⟩]
  dsimp only
  rw [u64_mod z (by omega) (by omega),show (224+(z - -32)).toNat=(z % 256).toNat by omega]
  rfl
 ·rw [if_neg (by omega),if_neg (by omega),if_neg (by omega)]
  unfold sWide
  by_cases b:-128≤z
  ·rw [if_pos b,show fitZ z 1=true by unfold fitZ;simp;omega];rfl
  rw [if_neg b,show fitZ z 1=false by unfold fitZ;simp;omega]
  unfold sWide
  by_cases b:-32768≤z
  ·rw [if_pos b,show fitZ z 2=true by unfold fitZ;simp;omega];rfl
  rw [if_neg b,show fitZ z 2=false by unfold fitZ;simp;omega]
  unfold sWide
  by_cases b:-2147483648≤z
  ·rw [if_pos b,show fitZ z 4=true by unfold fitZ;simp;omega];rfl
  rw [if_neg b,show fitZ z 4=false by unfold fitZ;simp;omega]
  rfl
theorem u64_nat (n:Nat) (h:n<18446744073709551616):u64N (n:Int)=n:=by unfold u64N;omega
theorem sText_txt (n:Nat) (h:n≤65536):sText (scR 4) (n:Int)=headP (txtH n) n:=by
 show (if (0:Int)≤(n:Int)∧(n:Int)<0+32 then [UInt8.ofNat ((160:Int)+((n:Int) - 0)).toNat] else sWide 217 (n:Int) [1,2,4] 0)=_
 unfold txtH headP
 by_cases a:n<32
 ·rw [if_pos ⟨by omega,by omega⟩,if_pos a,show (160+((n:Int) - 0)).toNat=160+n by omega];rfl
 ·rw [if_neg (by omega),if_neg a]
  unfold sWide
  rw [u64_nat n (by omega)]
  by_cases b:n<256
  ·rw [if_pos b,show fitZ (n:Int) 1=true by unfold fitZ;simp;omega];rfl
  rw [if_neg b,show fitZ (n:Int) 1=false by unfold fitZ;simp;omega]
  unfold sWide
  rw [u64_nat n (by omega)]
  by_cases b:n<65536
  ·rw [if_pos b,show fitZ (n:Int) 2=true by unfold fitZ;simp;omega];rfl
  rw [if_neg b,show fitZ (n:Int) 2=false by unfold fitZ;simp;omega]
  unfold sWide
  rw [u64_nat n (by omega),show fitZ (n:Int) 4=true by unfold fitZ;simp;omega]
  rfl
theorem sText_lst (n:Nat) (h:n≤256):sText (scR 5) (n:Int)=headP (lstH n) n∧sText (scR 6) (n:Int)=headP (mapH n) n:=by
 refine ⟨?_,?_⟩
 ·show (if (0:Int)≤(n:Int)∧(n:Int)<0+16 then [UInt8.ofNat ((144:Int)+((n:Int) - 0)).toNat] else sWide 220 (n:Int) [2] 0)=_
  unfold lstH headP
  by_cases a:n<16
  ·rw [if_pos ⟨by omega,by omega⟩,if_pos a,show (144+((n:Int) - 0)).toNat=144+n by omega];rfl
  ·rw [if_neg (by omega),if_neg a]
   unfold sWide
   rw [u64_nat n (by omega),show fitZ (n:Int) 2=true by unfold fitZ;simp;omega];rfl
 ·show (if (0:Int)≤(n:Int)∧(n:Int)<0+16 then [UInt8.ofNat ((128:Int)+((n:Int) - 0)).toNat] else sWide 222 (n:Int) [2] 0)=_
  unfold mapH headP
  by_cases a:n<16
  ·rw [if_pos ⟨by omega,by omega⟩,if_pos a,show (128+((n:Int) - 0)).toNat=128+n by omega];rfl
  ·rw [if_neg (by omega),if_neg a]
   unfold sWide
   rw [u64_nat n (by omega),show fitZ (n:Int) 2=true by unfold fitZ;simp;omega];rfl
theorem sIx_ok {d:Nat} {x:ND} (h:validN (d+1) x=true) (hn:numsB (d+1) x=true):sIx x<7∧(scR (sIx x)).kind=x.kind∧((scR (sIx x)).least<0↔pPay x<0)∧sText (scR (sIx x)) (pPay x)=headP (pHd x) (pVal x)∧(∀j,j<sIx x→¬ ((scR j).kind=x.kind∧((scR j).least<0↔pPay x<0)))∧-9223372036854775808≤pPay x∧pPay x≤9223372036854775807:=by
 obtain ⟨hi,hl,htx,hns⟩:=validN_parts h
 obtain ⟨hw,hni⟩:=numsB_parts hn
 have h1:=textOk_le htx
 unfold wideI at hw
 rw [Bool.and_eq_true,decide_eq_true_eq,decide_eq_true_eq] at hw
 have hk:=kinds h
 obtain ⟨k,b,n,t,ns,its⟩:=x
 unfold nd0 at hk
 simp only [ND.mk.injEq,ND.kind,ND.bool,ND.num,ND.text,ND.names,ND.items] at *
 rcases hk with ⟨rfl,rfl,rfl,rfl,rfl,rfl⟩ | ⟨rfl,-,rfl,rfl,rfl,rfl⟩ | ⟨rfl,rfl,-,rfl,rfl,rfl⟩ | ⟨rfl,rfl,rfl,-,rfl,rfl⟩ | ⟨rfl,rfl,rfl,rfl,rfl,-⟩ | ⟨⟨rfl,rfl,rfl,rfl,-,-⟩,hlx⟩
 ·exact ⟨by decide,rfl,by decide,rfl,fun j hj=>absurd hj (Nat.not_lt_zero _),by decide,by decide⟩
 ·have hj0:∀ (P:Prop) (j:Nat),j<1→¬ ((scR j).kind=1∧P):=fun P j hj=>by
   obtain rfl:j=0:=by omega
   exact fun e=>absurd e.1 (by decide)
  cases b <;> exact ⟨by decide,rfl,by decide,rfl,fun j hj=>hj0 _ j hj,by decide,by decide⟩
 ·have hp:pPay (.mk 2 false n ⟨#[]⟩ [] [])=n:=rfl
  rw [hp]
  by_cases q:n<0
  ·rw [show sIx (.mk 2 false n ⟨#[]⟩ [] [])=3 by unfold sIx;simp [ND.kind,ND.num,q]]
   refine ⟨by decide,rfl,⟨fun _=>q,fun _=>by decide⟩,?_,fun j hj=>?_,hw.1,hw.2⟩
   ·rw [sText_neg n hw.1 q];rfl
   ·obtain rfl | rfl | rfl:j=0∨j=1∨j=2:=by omega
    ·exact fun e=>absurd e.1 (by decide)
    ·exact fun e=>absurd e.1 (by decide)
    ·exact fun e=>absurd (e.2.2 q) (by decide)
  ·rw [show sIx (.mk 2 false n ⟨#[]⟩ [] [])=2 by unfold sIx;simp [ND.kind,ND.num,q]]
   refine ⟨by decide,rfl,⟨fun e=>absurd e (by decide),fun e=>absurd e q⟩,?_,fun j hj=>?_,hw.1,hw.2⟩
   ·rw [sText_pos n (by omega) hw.2];rfl
   ·obtain rfl | rfl:j=0∨j=1:=by omega
    ·exact fun e=>absurd e.1 (by decide)
    ·exact fun e=>absurd e.1 (by decide)
 ·have hp:pPay (.mk 3 false 0 t [] [])=(t.size:Int):=rfl
  rw [hp,show sIx (.mk 3 false 0 t [] [])=4 from rfl]
  refine ⟨by decide,rfl,⟨fun e=>absurd e (by decide),fun e=>by omega⟩,?_,fun j hj=>?_,by omega,by omega⟩
  ·rw [sText_txt t.size h1];rfl
  ·obtain rfl | rfl | rfl | rfl:j=0∨j=1∨j=2∨j=3:=by omega
   all_goals exact fun e=>absurd e.1 (by decide)
 ·have hp:pPay (.mk 4 false 0 ⟨#[]⟩ [] its)=(its.length:Int):=rfl
  rw [hp,show sIx (.mk 4 false 0 ⟨#[]⟩ [] its)=5 from rfl]
  refine ⟨by decide,rfl,⟨fun e=>absurd e (by decide),fun e=>by omega⟩,?_,fun j hj=>?_,by omega,by omega⟩
  ·rw [(sText_lst its.length hl).1];rfl
  ·obtain rfl | rfl | rfl | rfl | rfl:j=0∨j=1∨j=2∨j=3∨j=4:=by omega
   all_goals exact fun e=>absurd e.1 (by decide)
 ·have hp:pPay (.mk 5 false 0 ⟨#[]⟩ ns its)=(its.length:Int):=rfl
  rw [hp,show sIx (.mk 5 false 0 ⟨#[]⟩ ns its)=6 from rfl]
  refine ⟨by decide,rfl,⟨fun e=>absurd e (by decide),fun e=>by omega⟩,?_,fun j hj=>?_,by omega,by omega⟩
  ·rw [(sText_lst its.length hl).2];rfl
  ·obtain rfl | rfl | rfl | rfl | rfl | rfl:j=0∨j=1∨j=2∨j=3∨j=4∨j=5:=by omega
   all_goals exact fun e=>absurd e.1 (by decide)
end Go.Proofs.YtdppdonaojdceaaGreatDoor