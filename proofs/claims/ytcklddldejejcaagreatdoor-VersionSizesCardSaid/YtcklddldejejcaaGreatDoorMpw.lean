/- The third serialisation as data: heads, the bytes of nodes, and that nothing else has them. No program. -/
import Derived.Test.YtcklddldejejcaaGreatDoorCw
set_option linter.unusedVariables false
set_option linter.unusedSimpArgs false
set_option maxHeartbeats 3200000
set_option maxRecDepth 100000
namespace Go.Proofs.YtcklddldejejcaaGreatDoor
def u64N (z:Int):Nat:=(z % 18446744073709551616).toNat
def numH (z:Int):Nat × Nat:=if -32≤z∧z<128 then (u64N z % 256,0) else if 0<z then (if z<256 then (204,1) else if z<65536 then (205,2) else if z<4294967296 then (206,4) else (207,8)) else if -128≤z then (208,1) else if -32768≤z then (209,2) else if -2147483648≤z then (210,4) else (211,8)
def txtH (n:Nat):Nat × Nat:=if n<32 then (160+n,0) else if n<256 then (217,1) else if n<65536 then (218,2) else (219,4)
def lstH (n:Nat):Nat × Nat:=if n<16 then (144+n,0) else (220,2)
def mapH (n:Nat):Nat × Nat:=if n<16 then (128+n,0) else (222,2)
def headP (h:Nat × Nat) (v:Nat):List UInt8:=UInt8.ofNat h.1::bigL v h.2
def pHd (x:ND):Nat × Nat:=if x.kind=1 then (if x.bool then (195,0) else (194,0)) else if x.kind=2 then numH x.num else if x.kind=3 then txtH x.text.size else if x.kind=4 then lstH x.items.length else if x.kind=5 then mapH x.items.length else (192,0)
def pVal (x:ND):Nat:=if x.kind=2 then u64N x.num else if x.kind=3 then x.text.size else if x.kind=4 then x.items.length else if x.kind=5 then x.items.length else 0
def pPay (x:ND):Int:=if x.kind=1 then (if x.bool then 1 else 0) else if x.kind=2 then x.num else if x.kind=3 then x.text.size else if x.kind=4 then x.items.length else if x.kind=5 then x.items.length else 0
def pCls (c:Nat):Int:=if c<128 then 2 else if c<144 then 5 else if c<160 then 4 else if c<192 then 3 else if c=192 then 0 else if c<196 then 1 else if c<212 then 2 else if c<220 then 3 else if c=220 then 4 else if c=222 then 5 else 2
def pWid (c:Nat):Nat:=if c=204∨c=208∨c=217 then 1 else if c=205∨c=209∨c=218∨c=220∨c=222 then 2 else if c=206∨c=210∨c=219 then 4 else if c=207∨c=211 then 8 else 0
def pDec (c v:Nat):Int:=if c<128 then c else if c<144 then c - 128 else if c<160 then c - 144 else if c<192 then c - 160 else if c=195 then 1 else if c<208 then v else if c=208 then v - 256 else if c=209 then v - 65536 else if c=210 then v - 4294967296 else if c=211 then v - 18446744073709551616 else if c<224 then v else c - 256
theorem dec_0:∀c:Nat,c<256→(c<128→pCls c=2∧pWid c=0∧pDec c 0=c)∧(224≤c→pCls c=2∧pWid c=0∧pDec c 0=(c:Int) - 256)∧(160≤c→c<192→pCls c=3∧pWid c=0∧pDec c 0=(c:Int) - 160)∧(144≤c→c<160→pCls c=4∧pWid c=0∧pDec c 0=(c:Int) - 144)∧(128≤c→c<144→pCls c=5∧pWid c=0∧pDec c 0=(c:Int) - 128):=by
 have:∀c:Fin 256,(c.1<128→pCls c.1=2∧pWid c.1=0∧pDec c.1 0=c.1)∧(224≤c.1→pCls c.1=2∧pWid c.1=0∧pDec c.1 0=(c.1:Int) - 256)∧(160≤c.1→c.1<192→pCls c.1=3∧pWid c.1=0∧pDec c.1 0=(c.1:Int) - 160)∧(144≤c.1→c.1<160→pCls c.1=4∧pWid c.1=0∧pDec c.1 0=(c.1:Int) - 144)∧(128≤c.1→c.1<144→pCls c.1=5∧pWid c.1=0∧pDec c.1 0=(c.1:Int) - 128):=by decide +kernel
 exact fun c h=>this ⟨c,h⟩
theorem num_ok (z:Int) (h1:-9223372036854775808≤z) (h2:z≤9223372036854775807):(numH z).1<256∧pCls (numH z).1=2∧pWid (numH z).1=(numH z).2∧pDec (numH z).1 (u64N z % 256 ^ (numH z).2)=z:=by
 unfold numH
 by_cases a:-32≤z∧z<128
 ·rw [if_pos a]
  dsimp only
  have hc:u64N z % 256<128∧(u64N z % 256:Nat)=z∨224≤u64N z % 256∧u64N z % 256<256∧(u64N z % 256:Nat)=z+256:=by unfold u64N;omega
  generalize u64N z % 256=c at hc ⊢
  obtain ⟨d1,d2,-⟩:=dec_0 c (by omega)
  rw [Nat.pow_zero,Nat.mod_one]
  rcases hc with hc | hc
  ·obtain ⟨e1,e2,e3⟩:=d1 hc.1
   exact ⟨by omega,e1,e2,by omega⟩
  ·obtain ⟨e1,e2,e3⟩:=d2 hc.1
   exact ⟨by omega,e1,e2,by omega⟩
 ·rw [if_neg a]
  by_cases p:0<z
  ·rw [if_pos p]
   by_cases q:z<256
   ·rw [if_pos q]
    refine ⟨by decide,by decide,by decide,?_⟩
    show pDec 204 (u64N z % 256 ^ 1)=z
    rw [show ∀v,pDec 204 v=(v:Int) from fun _=>rfl]
    unfold u64N
    simp only [Nat.reducePow]
    omega
   rw [if_neg q]
   by_cases q:z<65536
   ·rw [if_pos q]
    refine ⟨by decide,by decide,by decide,?_⟩
    show pDec 205 (u64N z % 256 ^ 2)=z
    rw [show ∀v,pDec 205 v=(v:Int) from fun _=>rfl]
    unfold u64N
    simp only [Nat.reducePow]
    omega
   rw [if_neg q]
   by_cases q:z<4294967296
   ·rw [if_pos q]
    refine ⟨by decide,by decide,by decide,?_⟩
    show pDec 206 (u64N z % 256 ^ 4)=z
    rw [show ∀v,pDec 206 v=(v:Int) from fun _=>rfl]
    unfold u64N
    simp only [Nat.reducePow]
    omega
   rw [if_neg q]
   refine ⟨by decide,by decide,by decide,?_⟩
   show pDec 207 (u64N z % 256 ^ 8)=z
   rw [show ∀v,pDec 207 v=(v:Int) from fun _=>rfl]
   unfold u64N
   simp only [Nat.reducePow]
   omega
  ·rw [if_neg p]
   by_cases q:-128≤z
   ·rw [if_pos q]
    refine ⟨by decide,by decide,by decide,?_⟩
    show pDec 208 (u64N z % 256 ^ 1)=z
    rw [show ∀v,pDec 208 v=(v:Int) - 256 from fun _=>rfl]
    unfold u64N
    simp only [Nat.reducePow]
    omega
   rw [if_neg q]
   by_cases q:-32768≤z
   ·rw [if_pos q]
    refine ⟨by decide,by decide,by decide,?_⟩
    show pDec 209 (u64N z % 256 ^ 2)=z
    rw [show ∀v,pDec 209 v=(v:Int) - 65536 from fun _=>rfl]
    unfold u64N
    simp only [Nat.reducePow]
    omega
   rw [if_neg q]
   by_cases q:-2147483648≤z
   ·rw [if_pos q]
    refine ⟨by decide,by decide,by decide,?_⟩
    show pDec 210 (u64N z % 256 ^ 4)=z
    rw [show ∀v,pDec 210 v=(v:Int) - 4294967296 from fun _=>rfl]
    unfold u64N
    simp only [Nat.reducePow]
    omega
   rw [if_neg q]
   refine ⟨by decide,by decide,by decide,?_⟩
   show pDec 211 (u64N z % 256 ^ 8)=z
   rw [show ∀v,pDec 211 v=(v:Int) - 18446744073709551616 from fun _=>rfl]
   unfold u64N
   simp only [Nat.reducePow]
   omega
theorem txt_ok (n:Nat) (h:n≤65536):(txtH n).1<256∧pCls (txtH n).1=3∧pWid (txtH n).1=(txtH n).2∧pDec (txtH n).1 (n % 256 ^ (txtH n).2)=n:=by
 unfold txtH
 by_cases a:n<32
 ·rw [if_pos a]
  dsimp only
  obtain ⟨-,-,d1,-⟩:=dec_0 (160+n) (by omega)
  rw [Nat.pow_zero,Nat.mod_one]
  obtain ⟨e1,e2,e3⟩:=d1 (by omega) (by omega)
  exact ⟨by omega,e1,e2,by omega⟩
 ·rw [if_neg a]
  by_cases q:n<256
  ·rw [if_pos q]
   refine ⟨by decide,by decide,by decide,?_⟩
   show pDec 217 (n % 256 ^ 1)=n
   rw [show ∀v,pDec 217 v=(v:Int) from fun _=>rfl]
   simp only [Nat.reducePow]
   omega
  rw [if_neg q]
  by_cases q:n<65536
  ·rw [if_pos q]
   refine ⟨by decide,by decide,by decide,?_⟩
   show pDec 218 (n % 256 ^ 2)=n
   rw [show ∀v,pDec 218 v=(v:Int) from fun _=>rfl]
   simp only [Nat.reducePow]
   omega
  rw [if_neg q]
  refine ⟨by decide,by decide,by decide,?_⟩
  show pDec 219 (n % 256 ^ 4)=n
  rw [show ∀v,pDec 219 v=(v:Int) from fun _=>rfl]
  simp only [Nat.reducePow]
  omega
theorem lst_ok (n:Nat) (h:n≤256):(lstH n).1<256∧pCls (lstH n).1=4∧pWid (lstH n).1=(lstH n).2∧pDec (lstH n).1 (n % 256 ^ (lstH n).2)=n:=by
 unfold lstH
 by_cases a:n<16
 ·rw [if_pos a]
  dsimp only
  obtain ⟨-,-,-,d1,-⟩:=dec_0 (144+n) (by omega)
  rw [Nat.pow_zero,Nat.mod_one]
  obtain ⟨e1,e2,e3⟩:=d1 (by omega) (by omega)
  exact ⟨by omega,e1,e2,by omega⟩
 ·rw [if_neg a]
  dsimp only
  refine ⟨by decide,by decide,by decide,?_⟩
  show pDec 220 (n % 256 ^ 2)=n
  rw [show ∀v,pDec 220 v=(v:Int) from fun _=>rfl]
  simp only [Nat.reducePow]
  omega
theorem map_ok (n:Nat) (h:n≤256):(mapH n).1<256∧pCls (mapH n).1=5∧pWid (mapH n).1=(mapH n).2∧pDec (mapH n).1 (n % 256 ^ (mapH n).2)=n:=by
 unfold mapH
 by_cases a:n<16
 ·rw [if_pos a]
  dsimp only
  obtain ⟨-,-,-,-,d1⟩:=dec_0 (128+n) (by omega)
  rw [Nat.pow_zero,Nat.mod_one]
  obtain ⟨e1,e2,e3⟩:=d1 (by omega) (by omega)
  exact ⟨by omega,e1,e2,by omega⟩
 ·rw [if_neg a]
  dsimp only
  refine ⟨by decide,by decide,by decide,?_⟩
  show pDec 222 (n % 256 ^ 2)=n
  rw [show ∀v,pDec 222 v=(v:Int) from fun _=>rfl]
  simp only [Nat.reducePow]
  omega
theorem head_ok {d:Nat} {x:ND} (h:validN (d+1) x=true) (hn:numsB (d+1) x=true):(pHd x).1<256∧pCls (pHd x).1=x.kind∧pWid (pHd x).1=(pHd x).2∧pDec (pHd x).1 (pVal x % 256 ^ (pHd x).2)=pPay x:=by
 obtain ⟨hi,hl,htx,hns⟩:=validN_parts h
 obtain ⟨hw,hni⟩:=numsB_parts hn
 have h1:=textOk_le htx
 unfold wideI at hw
 rw [Bool.and_eq_true,decide_eq_true_eq,decide_eq_true_eq] at hw
 have hk:=kinds h
 obtain ⟨k,b,n,t,ns,its⟩:=x
 unfold nd0 at hk
 simp only [ND.mk.injEq,ND.kind,ND.bool,ND.num,ND.text,ND.names,ND.items] at *
 rcases hk with ⟨rfl,rfl,rfl,rfl,rfl,rfl⟩ | ⟨rfl,-,rfl,rfl,rfl,rfl⟩ | ⟨rfl,rfl,-,rfl,rfl,rfl⟩ | ⟨rfl,rfl,rfl,-,rfl,rfl⟩ | ⟨rfl,rfl,rfl,rfl,rfl,-⟩ | ⟨⟨rfl,rfl,rfl,rfl,-,-⟩,hlx⟩
 ·exact ⟨by decide,by decide,by decide,by decide⟩
 ·cases b <;> exact ⟨by decide,by decide,by decide,by decide⟩
 ·exact num_ok n hw.1 hw.2
 ·exact txt_ok t.size h1
 ·exact lst_ok its.length hl
 ·exact map_ok its.length hl
theorem headP_app {x y:ND} {d e:Nat} {t t':List UInt8} (hx:validN (d+1) x=true) (nx:numsB (d+1) x=true) (hy:validN (e+1) y=true) (ny:numsB (e+1) y=true) (h:headP (pHd x) (pVal x)++t=headP (pHd y) (pVal y)++t'):x.kind=y.kind∧pPay x=pPay y∧t=t':=by
 obtain ⟨a1,a2,a3,a4⟩:=head_ok hx nx
 obtain ⟨b1,b2,b3,b4⟩:=head_ok hy ny
 unfold headP at h
 rw [List.cons_append,List.cons_append] at h
 obtain ⟨h1,h2⟩:=List.cons.inj h
 have h1:=congrArg UInt8.toNat h1
 rw [UInt8.toNat_ofNat',UInt8.toNat_ofNat'] at h1
 have hc:(pHd x).1=(pHd y).1:=by omega
 have hk:(pHd x).2=(pHd y).2:=by rw [←a3,←b3,hc]
 rw [←hk] at h2
 obtain ⟨e1,e2⟩:=List.append_inj h2 (by rw [bigL_length,bigL_length])
 have e3:=congrArg bigV e1
 rw [bigV_bigL,bigV_bigL] at e3
 rw [←hk,←e3,←hc] at b4
 exact ⟨by rw [←a2,←b2,hc],by rw [←a4,←b4],e2⟩
def pText (s:ByteArray):List UInt8:=headP (txtH s.size) s.size++s.data.toList
def bodyM (W:ND→List UInt8) (x:ND):List UInt8:=
 if x.kind=3 then x.text.data.toList
 else if x.kind=4 then x.items.flatMap W
 else if x.kind=5 then (List.zipWith (fun s y=>pText s++W y) x.names x.items).flatten
 else []
def writeP:Nat→ND→List UInt8
 | 0,_=>[]
 | d+1,x=>headP (pHd x) (pVal x)++bodyM (writeP d) x
theorem writeP_succ (d:Nat) (x:ND):writeP (d+1) x=headP (pHd x) (pVal x)++bodyM (writeP d) x:=rfl
theorem pText_inj {a b:ByteArray} {t t':List UInt8} (ha:a.size≤65536) (hb:b.size≤65536) (h:pText a++t=pText b++t'):a=b∧t=t':=by
 obtain ⟨a1,a2,a3,a4⟩:=txt_ok a.size ha
 obtain ⟨b1,b2,b3,b4⟩:=txt_ok b.size hb
 unfold pText headP at h
 rw [List.append_assoc,List.append_assoc,List.cons_append,List.cons_append] at h
 obtain ⟨h1,h2⟩:=List.cons.inj h
 have h1:=congrArg UInt8.toNat h1
 rw [UInt8.toNat_ofNat',UInt8.toNat_ofNat'] at h1
 have hc:(txtH a.size).1=(txtH b.size).1:=by omega
 have hk:(txtH a.size).2=(txtH b.size).2:=by rw [←a3,←b3,hc]
 rw [←hk] at h2
 obtain ⟨e1,e2⟩:=List.append_inj h2 (by rw [bigL_length,bigL_length])
 have e3:=congrArg bigV e1
 rw [bigV_bigL,bigV_bigL] at e3
 rw [←hk,←e3,←hc] at b4
 have hs:a.size=b.size:=by have:=a4.symm.trans b4;omega
 obtain ⟨h3,h4⟩:=List.append_inj e2 (by rw [Array.length_toList,Array.length_toList];exact hs)
 exact ⟨data_inj h3,h4⟩
theorem zipP_inj {W:ND→List UInt8}:∀ (ns ms:List ByteArray) (xs ys:List ND) (t t':List UInt8),ns.length=xs.length→ms.length=ys.length→xs.length=ys.length→(∀s,s ∈ ns→s.size≤65536)→(∀s,s ∈ ms→s.size≤65536)→(∀x y t t',x ∈ xs→y ∈ ys→W x++t=W y++t'→x=y∧t=t') →
 (List.zipWith (fun s y=>pText s++W y) ns xs).flatten++t=(List.zipWith (fun s y=>pText s++W y) ms ys).flatten++t'→ns=ms∧xs=ys∧t=t'
 | [],[],[],[],t,t',_,_,_,_,_,_,h=>⟨rfl,rfl,h⟩
 | n::ns,m::ms,x::xs,y::ys,t,t',h1,h2,h3,hn,hm,hw,h=>by
  rw [List.zipWith_cons_cons,List.zipWith_cons_cons,List.flatten_cons,List.flatten_cons,List.append_assoc,List.append_assoc,List.append_assoc,List.append_assoc] at h
  obtain ⟨rfl,h4⟩:=pText_inj (hn n (by simp)) (hm m (by simp)) h
  obtain ⟨rfl,h5⟩:=hw x y _ _ (by simp) (by simp) h4
  obtain ⟨rfl,rfl,h6⟩:=zipP_inj ns ms xs ys t t' (by simpa using h1) (by simpa using h2) (by simpa using h3) (fun s hs=>hn s (by simp [hs])) (fun s hs=>hm s (by simp [hs])) (fun a b u u' ha hb=>hw a b u u' (by simp [ha]) (by simp [hb])) h5
  exact ⟨rfl,rfl,h6⟩
 | [],_,_::_,_,_,_,h,_,_,_,_,_,_=>by simp at h
 | _::_,_,[],_,_,_,h,_,_,_,_,_,_=>by simp at h
 | _,[],_,_::_,_,_,_,h,_,_,_,_,_=>by simp at h
 | _,_::_,_,[],_,_,_,h,_,_,_,_,_=>by simp at h
 | [],_::_,[],_::_,_,_,_,_,h,_,_,_,_=>by simp at h
theorem writeP_app_inj:∀ (d:Nat) (x y:ND) (t t':List UInt8),validN d x=true→numsB d x=true→validN d y=true→numsB d y=true→writeP d x++t=writeP d y++t'→x=y∧t=t'
 | 0,_,_,_,_,h,_,_,_,_=>by cases h
 | d+1,x,y,t,t',hx,nx,hy,ny,h=>by
  rw [writeP_succ,writeP_succ,List.append_assoc,List.append_assoc] at h
  obtain ⟨hm,hc,hr⟩:=headP_app hx nx hy ny h
  obtain ⟨ix,lx,tx,sx⟩:=validN_parts hx
  obtain ⟨iy,ly,ty,sy⟩:=validN_parts hy
  obtain ⟨wx,mx⟩:=numsB_parts nx
  obtain ⟨wy,my⟩:=numsB_parts ny
  have ih:∀a b u u',a ∈ x.items→b ∈ y.items→writeP d a++u=writeP d b++u'→a=b∧u=u':=fun a b u u' ha hb=>writeP_app_inj d a b u u' (ix a ha) (mx a ha) (iy b hb) (my b hb)
  have kx:=kinds hx
  have ky:=kinds hy
  obtain ⟨k,b,n,tt,ns,its⟩:=x
  obtain ⟨k',b',n',tt',ns',its'⟩:=y
  unfold nd0 at kx ky
  simp only [ND.mk.injEq,ND.kind,ND.bool,ND.num,ND.text,ND.names,ND.items] at *
  subst hm
  unfold pPay at hc
  unfold bodyM at hr
  simp only [ND.kind,ND.bool,ND.num,ND.text,ND.names,ND.items] at hc hr
  rcases kx with ⟨rfl,rfl,rfl,rfl,rfl,rfl⟩ | ⟨rfl,-,rfl,rfl,rfl,rfl⟩ | ⟨rfl,rfl,-,rfl,rfl,rfl⟩ | ⟨rfl,rfl,rfl,-,rfl,rfl⟩ | ⟨rfl,rfl,rfl,rfl,rfl,-⟩ | ⟨⟨rfl,rfl,rfl,rfl,-,-⟩,hlx⟩ <;>
  simp at ky hc hr
  ·obtain ⟨rfl,rfl,rfl,rfl,rfl⟩:=ky;exact ⟨⟨rfl,rfl,rfl,rfl,rfl,rfl⟩,hr⟩
  ·obtain ⟨rfl,rfl,rfl,rfl⟩:=ky;refine ⟨⟨rfl,?_,rfl,rfl,rfl,rfl⟩,hr⟩;revert hc;cases b <;> cases b' <;> simp
  ·obtain ⟨rfl,rfl,rfl,rfl⟩:=ky;exact ⟨⟨rfl,rfl,hc,rfl,rfl,rfl⟩,hr⟩
  ·obtain ⟨rfl,rfl,rfl,rfl⟩:=ky
   obtain ⟨h3,h4⟩:=List.append_inj hr (by rw [Array.length_toList,Array.length_toList];exact_mod_cast hc)
   exact ⟨⟨rfl,rfl,rfl,data_inj h3,rfl,rfl⟩,h4⟩
  ·obtain ⟨rfl,rfl,rfl,rfl⟩:=ky
   obtain ⟨h3,h4⟩:=flat_inj its its' t t' (by omega) ih hr
   exact ⟨⟨rfl,rfl,rfl,rfl,rfl,h3⟩,h4⟩
  ·obtain ⟨⟨rfl,rfl,rfl⟩,hly⟩:=ky
   obtain ⟨h3,h4,h5⟩:=zipP_inj ns ns' its its' t t' hlx hly (by omega) (fun s hs=>textOk_le (sx s hs)) (fun s hs=>textOk_le (sy s hs)) ih hr
   exact ⟨⟨rfl,rfl,rfl,rfl,h3,h4⟩,h5⟩
theorem writeP_inj {d:Nat} {x y:ND} (hx:validW d x=true) (hy:validW d y=true) (h:writeP d x=writeP d y):x=y:=
 (writeP_app_inj d x y [] [] (validW_valid hx) (validW_nums hx) (validW_valid hy) (validW_nums hy) (by rw [h])).1
end Go.Proofs.YtcklddldejejcaaGreatDoor
namespace Go.Proofs.YtcklddldejejcaaGreatDoor
open Go Go.ChangeShapes Go.WideShapes Go.ChangeAt Go.RowKit
theorem rpbig_any (n:Nat) (k:Nat) (w:World) (hk:k≤8) (hn:n<18446744073709551616):Calls Tryz.prog 141 #[.int .u64 (n:Int),.int .i64 (k:Int)] w fun e w'=>e=.returned (.string (bC (bigL n k)))∧Below w.heap.size w w':=by
 obtain ⟨ib,hib,hb0,hb1,hb2⟩:=info_parts Tryz.info5
 have hub:=Tryz.underlying73
 have hu8:=Tryz.underlying5
 have hust:=Tryz.underlying9
 have HIB:=Hh hib
 have hk8:(k:Int)≤8:=by omega
 have hk1:IntKind.i64.wrap ((k:Int) - 1)=(k:Int) - 1:=IntWalk.i64_in _ (by omega)
 obtain ⟨N,hN⟩:∃N:Int,N=(n:Int):=⟨_,rfl⟩
 rw [←hN]
 have HN:=Hh (Ai hN hn)
 clear hN hn hib
 go_enter Tryz.func141,Tryz.ntmps141
 go_upto_region 3 with fail
 go_loopw [5,6] (fun v i wr=>∃ (j:Nat),i=.int .i64 ((k:Int) - 1 - (j:Int))∧j≤k∧wr.ownsRow w.heap.size 5 1 v j (bytesV ((bigL n k).take j))∧Below w.heap.size w wr) (fun _ i _=>(intOf i+1).toNat)
 case atStart=>exact ⟨0,by simp,Nat.zero_le _,World.ownsRow_nil w _ _ _,Br _ _⟩
 case round=>
  obtain ⟨j,rfl,hj,hown,hB⟩:=hrel
  have HROW:=Hh (Ai hown hB)
  clear hown hB
  by_cases hlt:j<k
  ·have hge:(0:Int)≤(k:Int) - 1 - (j:Int):=by omega
   obtain ⟨i,hi⟩:∃i:Nat,(i:Int)=(k:Int) - 1 - (j:Int):=⟨k - 1 - j,by omega⟩
   have hi7:(i:Int)≤7:=by omega
   have hi0:(0:Int)≤(i:Int):=by omega
   rw [←hi] at hge ⊢
   have HI:=Hh hi
   clear hi hge
   obtain ⟨c,hcc⟩:∃c,c=UInt8.ofNat (n / 256 ^ i):=⟨_,rfl⟩
   have hc:N / 2 ^ (8 * i) % 256=(c.toNat:Int):=by rw [HN.out.1,hcc];exact byte_at n i
   have HC:=Hh hcc
   have hbl:((bigL n k).take j).length=j:=by rw [List.length_take,bigL_length];omega
   have HBL:=Hh hbl
   clear hcc hbl
   go_wp2_with (refine wpList_append_lies _ rfl (.tmp 13) (.tmp 20) 73 rfl w.heap.size 5 ib (.int .u8 0) 1 1 hub HIB.out hb0 hb1 hb2 rfl (by decide) _ j _ rfl (HROW.out.1.alloc (.cells #[.int .u8 (c.toNat:Int)] 5)) ⟨wr.heap.size,0,none⟩ 1 1 [.int .u8 (c.toNat:Int)] rfl rfl (cells_new wr #[.int .u8 (c.toNat:Int)] 5 [.int .u8 (c.toNat:Int)] rfl) (by intro u hu;simp only [List.mem_cons,List.not_mem_nil,or_false] at hu;rcases hu with rfl;rfl) (by decide) (by unfold maxLen;omega) (by omega) (by have:=HROW.out.2.size;simp;omega) _ rfl ?_;intro gg cc W8 hown hgrow hat hlt2)
   have hB8:=obelow (HROW.out.2.alloc HROW.out.2.size (.cells #[.int .u8 (c.toNat:Int)] 5)) (HROW.out.1.alloc (.cells #[.int .u8 (c.toNat:Int)] 5)) hgrow (by have:=HROW.out.2.size;simp;omega)
   have F:Hid (W8.ownsRow w.heap.size 5 1 (.slice (some ⟨gg,0,none⟩) (j+1) cc) (j+1) (bytesV ((bigL n k).take (j+1)))∧Below w.heap.size w W8):=Hh ⟨by
    rw [bigL_take n k j hlt,bytesV_append,show k - 1 - j=i by have:=HI.out;omega,←HC.out]
    exact hown,hB8⟩
   clear hown hgrow hat hB8
   go_wp2
   go_roundw
   case rel=>exact ⟨j+1,by have:=HI.out;exact congrArg _ (by omega),by omega,F.out.1,F.out.2⟩
   case measure=>simp [intOf] <;> omega
  ·have hj2:j=k:=by omega
   have hge:¬ (0:Int)≤(k:Int) - 1 - (j:Int):=by omega
   have hcv:=conv_owns (P:=Tryz.prog) wr 73 9 5 w.heap.size j _ ((bigL n k).take j) HROW.out.1 hub hu8 hust
   rw [hj2,List.take_of_length_le (by rw [bigL_length];exact Lr _)] at hcv
   have HJ:=Hh hj2
   clear hj2
   go_wp2
   go_ret
   exact ⟨rfl,HROW.out.2⟩
theorem rpone_any (z:Int) (c:Nat) (w:World) (hc:z % 256=((UInt8.ofNat c).toNat:Int)):Calls Tryz.prog 142 #[.int .i64 z] w fun e w'=>e=.returned (.string (bC [UInt8.ofNat c]))∧Below w.heap.size w w':=by
 generalize UInt8.ofNat c=b at hc ⊢
 have ka:=Hn w (.cells #[.int .u8 (b.toNat:Int)] 5)
 have hcv:(convert 73 9 (.slice (some ⟨w.heap.size,0,none⟩) 1 1)).run Tryz.prog (w.alloc (.cells #[.int .u8 (b.toNat:Int)] 5))=.ok (.string (bC [b])) (w.alloc (.cells #[.int .u8 (b.toNat:Int)] 5)):=
  run_convert_bytes_back _ _ _ 5 ⟨w.heap.size,0,none⟩ 1 [b] Tryz.underlying73 Tryz.underlying5 Tryz.underlying9 fun j hj=>(by
   obtain rfl:j=0:=by simpa using hj
   exact cells_lit [Value.int .u8 (b.toNat:Int)] ka rfl 0 _ rfl)
 clear ka
 go_enter Tryz.func142,Tryz.ntmps142
 go_wp2
 go_ret
 exact ⟨rfl,(Br _ _).alloc (Lr _) _⟩
theorem bC_cat (c:UInt8) (l:List UInt8):(⟨#[c]⟩:ByteArray)++bC l=bC (c::l):=by
 rw [show (⟨#[c]⟩:ByteArray)=bC [c] from rfl,bC_app];rfl
theorem u64_wrapN (z:Int):IntKind.u64.wrap z=(u64N z:Int):=by rw [IntKind.wrap_u64];unfold u64N;omega
theorem u64N_lt (z:Int):u64N z<18446744073709551616:=by unfold u64N;omega
theorem rpnum_any (z:Int) (w:World) (h1:-9223372036854775808≤z) (h2:z≤9223372036854775807):Calls Tryz.prog 139 #[.int .i64 z] w fun e w'=>e=.returned (.string (bC (headP (numH z) (u64N z))))∧Below w.heap.size w w':=by
 have hw:=u64_wrapN z
 have RB:=Hh (fun k (hk:k≤8) wx=>rpbig_any (u64N z) k wx hk (u64N_lt z))
 have CAT:Hid (∀k,k≤8→¬9223372036854775807<1+(bC (bigL (u64N z) k)).size):=Hh fun k hk=>by rw [bC_size,bigL_length];omega
 by_cases a:-32≤z∧z<128
 ·have hx:numH z=(u64N z % 256,0):=by unfold numH;rw [if_pos a]
  have RO:=Hh (fun wx=>rpone_any z (u64N z % 256) wx (by rw [UInt8.toNat_ofNat'];unfold u64N;omega))
  obtain ⟨a1,a2⟩:=a
  rw [hx]
  clear hx hw RB CAT
  generalize u64N z % 256=c at RO ⊢
  go_enter Tryz.func139,Tryz.ntmps139
  go_wp2_with (go_at_call 142;(with_reducible refine (RO.out _).mono ?_);rintro e w2 ⟨rfl,hb2⟩)
  go_ret
  exact ⟨rfl,hb2⟩
 have ha:¬ (-32≤z∧z<128):=a
 by_cases p:0<z
 ·have a1:-32≤z:=by omega
  have a2:¬z<128:=by omega
  by_cases q1:z<256
  ·skip
   have hx:bC (headP (numH z) (u64N z))=⟨#[204]⟩++bC (bigL (u64N z) 1):=by
    rw [bC_cat]
    unfold numH
    rw [if_neg ha,if_pos p,if_pos q1];rfl
   rw [hx]
   have RBk:=Hh (fun wx=>RB.out 1 (by decide) wx)
   rw [show ((1:Nat):Int)=1 from rfl] at RBk
   have hcat:=CAT.out 1 (by decide)
   clear hx RB CAT ha a
   generalize u64N z=N at hw RBk hcat ⊢
   go_enter Tryz.func139,Tryz.ntmps139
   go_wp2_with (go_at_call 141;(with_reducible refine (RBk.out _).mono ?_);rintro e w2 ⟨rfl,hb2⟩)
   go_ret
   exact ⟨rfl,hb2⟩
  by_cases q2:z<65536
  ·skip
   have hx:bC (headP (numH z) (u64N z))=⟨#[205]⟩++bC (bigL (u64N z) 2):=by
    rw [bC_cat]
    unfold numH
    rw [if_neg ha,if_pos p,if_neg q1,if_pos q2];rfl
   rw [hx]
   have RBk:=Hh (fun wx=>RB.out 2 (by decide) wx)
   rw [show ((2:Nat):Int)=2 from rfl] at RBk
   have hcat:=CAT.out 2 (by decide)
   clear hx RB CAT ha a
   generalize u64N z=N at hw RBk hcat ⊢
   go_enter Tryz.func139,Tryz.ntmps139
   go_wp2_with (go_at_call 141;(with_reducible refine (RBk.out _).mono ?_);rintro e w2 ⟨rfl,hb2⟩)
   go_ret
   exact ⟨rfl,hb2⟩
  by_cases q3:z<4294967296
  ·skip
   have hx:bC (headP (numH z) (u64N z))=⟨#[206]⟩++bC (bigL (u64N z) 4):=by
    rw [bC_cat]
    unfold numH
    rw [if_neg ha,if_pos p,if_neg q1,if_neg q2,if_pos q3];rfl
   rw [hx]
   have RBk:=Hh (fun wx=>RB.out 4 (by decide) wx)
   rw [show ((4:Nat):Int)=4 from rfl] at RBk
   have hcat:=CAT.out 4 (by decide)
   clear hx RB CAT ha a
   generalize u64N z=N at hw RBk hcat ⊢
   go_enter Tryz.func139,Tryz.ntmps139
   go_wp2_with (go_at_call 141;(with_reducible refine (RBk.out _).mono ?_);rintro e w2 ⟨rfl,hb2⟩)
   go_ret
   exact ⟨rfl,hb2⟩
  have hx:bC (headP (numH z) (u64N z))=⟨#[207]⟩++bC (bigL (u64N z) 8):=by
   rw [bC_cat]
   unfold numH
   rw [if_neg ha,if_pos p,if_neg q1,if_neg q2,if_neg q3];rfl
  rw [hx]
  have RBk:=Hh (fun wx=>RB.out 8 (by decide) wx)
  rw [show ((8:Nat):Int)=8 from rfl] at RBk
  have hcat:=CAT.out 8 (by decide)
  clear hx RB CAT ha a
  generalize u64N z=N at hw RBk hcat ⊢
  go_enter Tryz.func139,Tryz.ntmps139
  go_wp2_with (go_at_call 141;(with_reducible refine (RBk.out _).mono ?_);rintro e w2 ⟨rfl,hb2⟩)
  go_ret
  exact ⟨rfl,hb2⟩
 ·have a1:¬ -32≤z:=by omega
  by_cases q1:-128≤z
  ·skip
   have hx:bC (headP (numH z) (u64N z))=⟨#[208]⟩++bC (bigL (u64N z) 1):=by
    rw [bC_cat]
    unfold numH
    rw [if_neg ha,if_neg p,if_pos q1];rfl
   rw [hx]
   have RBk:=Hh (fun wx=>RB.out 1 (by decide) wx)
   rw [show ((1:Nat):Int)=1 from rfl] at RBk
   have hcat:=CAT.out 1 (by decide)
   clear hx RB CAT ha a
   generalize u64N z=N at hw RBk hcat ⊢
   go_enter Tryz.func139,Tryz.ntmps139
   go_wp2_with (go_at_call 141;(with_reducible refine (RBk.out _).mono ?_);rintro e w2 ⟨rfl,hb2⟩)
   go_ret
   exact ⟨rfl,hb2⟩
  by_cases q2:-32768≤z
  ·skip
   have hx:bC (headP (numH z) (u64N z))=⟨#[209]⟩++bC (bigL (u64N z) 2):=by
    rw [bC_cat]
    unfold numH
    rw [if_neg ha,if_neg p,if_neg q1,if_pos q2];rfl
   rw [hx]
   have RBk:=Hh (fun wx=>RB.out 2 (by decide) wx)
   rw [show ((2:Nat):Int)=2 from rfl] at RBk
   have hcat:=CAT.out 2 (by decide)
   clear hx RB CAT ha a
   generalize u64N z=N at hw RBk hcat ⊢
   go_enter Tryz.func139,Tryz.ntmps139
   go_wp2_with (go_at_call 141;(with_reducible refine (RBk.out _).mono ?_);rintro e w2 ⟨rfl,hb2⟩)
   go_ret
   exact ⟨rfl,hb2⟩
  by_cases q3:-2147483648≤z
  ·skip
   have hx:bC (headP (numH z) (u64N z))=⟨#[210]⟩++bC (bigL (u64N z) 4):=by
    rw [bC_cat]
    unfold numH
    rw [if_neg ha,if_neg p,if_neg q1,if_neg q2,if_pos q3];rfl
   rw [hx]
   have RBk:=Hh (fun wx=>RB.out 4 (by decide) wx)
   rw [show ((4:Nat):Int)=4 from rfl] at RBk
   have hcat:=CAT.out 4 (by decide)
   clear hx RB CAT ha a
   generalize u64N z=N at hw RBk hcat ⊢
   go_enter Tryz.func139,Tryz.ntmps139
   go_wp2_with (go_at_call 141;(with_reducible refine (RBk.out _).mono ?_);rintro e w2 ⟨rfl,hb2⟩)
   go_ret
   exact ⟨rfl,hb2⟩
  have hx:bC (headP (numH z) (u64N z))=⟨#[211]⟩++bC (bigL (u64N z) 8):=by
   rw [bC_cat]
   unfold numH
   rw [if_neg ha,if_neg p,if_neg q1,if_neg q2,if_neg q3];rfl
  rw [hx]
  have RBk:=Hh (fun wx=>RB.out 8 (by decide) wx)
  rw [show ((8:Nat):Int)=8 from rfl] at RBk
  have hcat:=CAT.out 8 (by decide)
  clear hx RB CAT ha a
  generalize u64N z=N at hw RBk hcat ⊢
  go_enter Tryz.func139,Tryz.ntmps139
  go_wp2_with (go_at_call 141;(with_reducible refine (RBk.out _).mono ?_);rintro e w2 ⟨rfl,hb2⟩)
  go_ret
  exact ⟨rfl,hb2⟩
theorem pText_bC (s:ByteArray):bC (pText s)=bC (headP (txtH s.size) s.size)++s:=by
 unfold pText
 rw [←bC_app,bC_of]
theorem rptext_any (s:ByteArray) (w:World) (hs:s.size≤65536):Calls Tryz.prog 140 #[.string s] w fun e w'=>e=.returned (.string (bC (pText s)))∧Below w.heap.size w w':=by
 rw [pText_bC]
 have hw:IntKind.u64.wrap (s.size:Int)=(s.size:Int):=by rw [IntKind.wrap_u64];omega
 have RB:=Hh (fun k (hk:k≤8) wx=>rpbig_any s.size k wx hk (by omega))
 have CAT:Hid (∀k,k≤8→¬9223372036854775807<1+(bC (bigL s.size k)).size∧∀c:UInt8,¬9223372036854775807<((⟨#[c]⟩:ByteArray)++bC (bigL s.size k)).size+s.size):=Hh fun k hk=>by
  refine ⟨by rw [bC_size,bigL_length];omega,fun c=>?_⟩
  rw [ByteArray.size_append,bC_size,bigL_length];show ¬9223372036854775807<1+k+s.size;omega
 by_cases q0:s.size<32
 ·have q0':(s.size:Int)<32:=by omega
  have hx:bC (headP (txtH s.size) s.size)=bC [UInt8.ofNat (160+s.size)]:=by unfold txtH;rw [if_pos q0];rfl
  rw [hx]
  have RO:=Hh (fun wx=>rpone_any (160+(s.size:Int)) (160+s.size) wx (by rw [UInt8.toNat_ofNat'];omega))
  have hcat:∀c:UInt8,¬9223372036854775807<(bC [c]).size+s.size:=fun c=>by rw [bC_size];simp;omega
  have hcat2:=hcat (UInt8.ofNat (160+s.size))
  clear hx RB CAT hw hcat
  generalize UInt8.ofNat (160+s.size)=c at RO hcat2 ⊢
  go_enter Tryz.func140,Tryz.ntmps140
  go_wp2_with (go_at_call 142;(with_reducible refine (RO.out _).mono ?_);rintro e w2 ⟨rfl,hb2⟩)
  go_ret
  exact ⟨rfl,hb2⟩
 have q0':¬ (s.size:Int)<32:=by omega
 by_cases q1:s.size<256
 ·have q1':(s.size:Int)<256:=by omega
  have hx:bC (headP (txtH s.size) s.size)=⟨#[217]⟩++bC (bigL s.size 1):=by
   rw [bC_cat]
   unfold txtH
   rw [if_neg q0,if_pos q1];rfl
  rw [hx]
  have RBk:=Hh (fun wx=>RB.out 1 (by decide) wx)
  rw [show ((1:Nat):Int)=1 from rfl] at RBk
  have hcat:=(CAT.out 1 (by decide)).1
  have hcat2:=(CAT.out 1 (by decide)).2 217
  clear hx RB CAT
  go_enter Tryz.func140,Tryz.ntmps140
  go_wp2_with (go_at_call 141;(with_reducible refine (RBk.out _).mono ?_);rintro e w2 ⟨rfl,hb2⟩)
  go_ret
  exact ⟨rfl,hb2⟩
 have q1':¬ (s.size:Int)<256:=by omega
 by_cases q2:s.size<65536
 ·have q2':(s.size:Int)<65536:=by omega
  have hx:bC (headP (txtH s.size) s.size)=⟨#[218]⟩++bC (bigL s.size 2):=by
   rw [bC_cat]
   unfold txtH
   rw [if_neg q0,if_neg q1,if_pos q2];rfl
  rw [hx]
  have RBk:=Hh (fun wx=>RB.out 2 (by decide) wx)
  rw [show ((2:Nat):Int)=2 from rfl] at RBk
  have hcat:=(CAT.out 2 (by decide)).1
  have hcat2:=(CAT.out 2 (by decide)).2 218
  clear hx RB CAT
  go_enter Tryz.func140,Tryz.ntmps140
  go_wp2_with (go_at_call 141;(with_reducible refine (RBk.out _).mono ?_);rintro e w2 ⟨rfl,hb2⟩)
  go_ret
  exact ⟨rfl,hb2⟩
 have q2':¬ (s.size:Int)<65536:=by omega
 have hx:bC (headP (txtH s.size) s.size)=⟨#[219]⟩++bC (bigL s.size 4):=by
  rw [bC_cat]
  unfold txtH
  rw [if_neg q0,if_neg q1,if_neg q2];rfl
 rw [hx]
 have RBk:=Hh (fun wx=>RB.out 4 (by decide) wx)
 rw [show ((4:Nat):Int)=4 from rfl] at RBk
 have hcat:=(CAT.out 4 (by decide)).1
 have hcat2:=(CAT.out 4 (by decide)).2 219
 clear hx RB CAT
 go_enter Tryz.func140,Tryz.ntmps140
 go_wp2_with (go_at_call 141;(with_reducible refine (RBk.out _).mono ?_);rintro e w2 ⟨rfl,hb2⟩)
 go_ret
 exact ⟨rfl,hb2⟩
end Go.Proofs.YtcklddldejejcaaGreatDoor