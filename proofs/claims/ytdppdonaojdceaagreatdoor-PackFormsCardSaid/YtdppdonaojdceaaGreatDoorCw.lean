/- The second serialisation as data: heads, the bytes of nodes, and that nothing else has them. No program. Then: The second serialisation: different nodes have different bytes, and how many bytes there are at most. No program. -/
import Derived.Test.YtdppdonaojdceaaGreatDoorJback
import Derived.Test.YtdppdonaojdceaaGreatDoorNmap
import Derived.Deep.AppendLies
set_option linter.unusedVariables false
set_option linter.unusedSimpArgs false
set_option maxHeartbeats 3200000
set_option maxRecDepth 100000
namespace Go.Proofs.YtdppdonaojdceaaGreatDoor
def bigL (n:Nat):Nat→List UInt8
 | 0=>[]
 | k+1=>UInt8.ofNat (n / 256 ^ k)::bigL n k
theorem bigL_length (n:Nat):∀k,(bigL n k).length=k
 | 0=>rfl
 | k+1=>by rw [bigL,List.length_cons,bigL_length n k]
def bigV (l:List UInt8):Nat:=l.foldl (fun a c=>a * 256+c.toNat) 0
theorem bigV0:∀ (l:List UInt8) (a:Nat),l.foldl (fun a c=>a * 256+c.toNat) a=a * 256 ^ l.length+bigV l
 | [],a=>by simp [bigV]
 | c::t,a=>by
  unfold bigV
  rw [List.foldl_cons,List.foldl_cons,bigV0 t (a * 256+c.toNat),bigV0 t (0 * 256+c.toNat),List.length_cons,Nat.pow_succ,Nat.zero_mul,Nat.zero_add,Nat.add_mul,Nat.mul_assoc,Nat.mul_comm 256 (256 ^ t.length)]
  omega
theorem bigV_cons (c:UInt8) (t:List UInt8):bigV (c::t)=c.toNat * 256 ^ t.length+bigV t:=by
 have:=bigV0 t c.toNat
 unfold bigV at this ⊢
 rw [List.foldl_cons,Nat.zero_mul,Nat.zero_add]
 exact this
theorem bigV_bigL (n:Nat):∀k,bigV (bigL n k)=n % 256 ^ k
 | 0=>by rw [Nat.pow_zero,Nat.mod_one];rfl
 | k+1=>by
  have h:n % (256 ^ k * 256)=n % 256 ^ k+256 ^ k * (n / 256 ^ k % 256):=Nat.mod_mul
  rw [bigL,bigV_cons,bigL_length,bigV_bigL n k,UInt8.toNat_ofNat',show 256 ^ (k+1)=256 ^ k * 256 from Nat.pow_succ ..,h,Nat.mul_comm]
  show 256 ^ k * (n / 256 ^ k % 256)+_=_
  omega
theorem bigL_back {n k:Nat} (h:n<256 ^ k):bigV (bigL n k)=n:=by rw [bigV_bigL,Nat.mod_eq_of_lt h]
theorem bigL_inj {n m k:Nat} (hn:n<256 ^ k) (hm:m<256 ^ k) (h:bigL n k=bigL m k):n=m:=by
 rw [←bigL_back hn,←bigL_back hm,h]
def headK (n:Nat):Nat:=if n<24 then 0 else if n<256 then 1 else if n<65536 then 2 else if n<4294967296 then 4 else 8
def headV (n:Nat):Nat:=if n<24 then n else if n<256 then 24 else if n<65536 then 25 else if n<4294967296 then 26 else 27
def headL (m n:Nat):List UInt8:=UInt8.ofNat (32 * m+headV n)::bigL n (headK n)
theorem headL_length (m n:Nat):(headL m n).length=headK n+1:=by rw [headL,List.length_cons,bigL_length]
theorem headK_le (n:Nat):headK n≤8:=by
 unfold headK
 (repeat' split) <;> omega
theorem headV_lt (n:Nat):headV n<32:=by
 unfold headV
 (repeat' split) <;> omega
theorem headV_K {n m:Nat} (h:headV n=headV m):headK n=headK m∧(headK n=0→n=m):=by
 unfold headV at h
 unfold headK
 by_cases a1:n<24
 ·rw [if_pos a1] at h
  rw [if_pos a1]
  by_cases b1:m<24
  ·rw [if_pos b1] at h ⊢;exact ⟨rfl,fun _=>h⟩
  ·rw [if_neg b1] at h
   exfalso
   revert h
   repeat' split
   all_goals omega
 ·rw [if_neg a1] at h
  rw [if_neg a1]
  by_cases b1:m<24
  ·rw [if_pos b1] at h
   exfalso
   revert h
   repeat' split
   all_goals omega
  ·rw [if_neg b1] at h
   rw [if_neg b1]
   revert h
   repeat' split
   all_goals (intro h;first | (exfalso;omega) | exact ⟨rfl,fun h=>absurd h (by decide)⟩)
theorem headK_fits {n:Nat} (h:n<18446744073709551616):headK n=0∨n<256 ^ headK n:=by
 unfold headK
 repeat' split
 all_goals first | exact .inl rfl | (right;simp only [Nat.reducePow];omega)
theorem headL_inj {m n m' n':Nat} {t t':List UInt8} (hm:m<8) (hm':m'<8) (hn:n<18446744073709551616) (hn':n'<18446744073709551616) (h:headL m n++t=headL m' n'++t'):m=m'∧n=n'∧t=t':=by
 unfold headL at h
 rw [List.cons_append,List.cons_append] at h
 obtain ⟨h1,h2⟩:=List.cons.inj h
 have h1:=congrArg UInt8.toNat h1
 rw [UInt8.toNat_ofNat',UInt8.toNat_ofNat'] at h1
 have v1:=headV_lt n
 have v2:=headV_lt n'
 have hmm:m=m':=by omega
 have hvv:headV n=headV n':=by omega
 obtain ⟨hk,h0⟩:=headV_K hvv
 rw [←hk] at h2
 obtain ⟨e1,e2⟩:=List.append_inj h2 (by rw [bigL_length,bigL_length])
 refine ⟨hmm,?_,e2⟩
 rcases headK_fits hn with h | h
 ·exact h0 h
 ·rcases headK_fits hn' with h' | h'
  ·exact h0 (hk.trans h')
  ·rw [←hk] at h'
   exact bigL_inj h h' e1
def cMaj (x:ND):Nat:=if x.kind=1 then 7 else if x.kind=2 then (if x.num<0 then 1 else 0) else if x.kind=3 then 3 else if x.kind=4 then 4 else if x.kind=5 then 5 else 7
def cCnt (x:ND):Nat:=if x.kind=1 then (if x.bool then 21 else 20) else if x.kind=2 then (if x.num<0 then (-1 - x.num).toNat else x.num.toNat) else if x.kind=3 then x.text.size else if x.kind=4 then x.items.length else if x.kind=5 then x.items.length else 22
def cText (s:ByteArray):List UInt8:=headL 3 s.size++s.data.toList
def writeC:Nat→ND→List UInt8
 | 0,_=>[]
 | d+1,x=>headL (cMaj x) (cCnt x) ++
  (if x.kind=3 then x.text.data.toList
  else if x.kind=4 then x.items.flatMap (writeC d)
  else if x.kind=5 then (List.zipWith (fun s y=>cText s++writeC d y) x.names x.items).flatten
  else [])
theorem writeC_same:∀ {e d:Nat} {x:ND},e≤d→validN e x=true→writeC d x=writeC e x
 | 0,_,_,_,h=>by cases h
 | e+1,0,_,h,_=>by omega
 | e+1,d+1,x,hd,h=>by
  rw [validN_succ,Bool.and_eq_true,List.all_eq_true] at h
  have hm:x.items.flatMap (writeC d)=x.items.flatMap (writeC e):=by
   rw [List.flatMap_def,List.flatMap_def,List.map_congr_left fun y hy=>writeC_same (by omega) (h.2 y hy)]
  have hz:List.zipWith (fun s y=>cText s++writeC d y) x.names x.items=List.zipWith (fun s y=>cText s++writeC e y) x.names x.items:=by
   have:∀ (ns:List ByteArray) (its:List ND),(∀y,y ∈ its→validN e y=true)→List.zipWith (fun s y=>cText s++writeC d y) ns its=List.zipWith (fun s y=>cText s++writeC e y) ns its:=by
    intro ns
    induction ns with
    | nil=>intro its _;rfl
    | cons s t ih=>
     intro its hi
     cases its with
     | nil=>rfl
     | cons y u=>rw [List.zipWith_cons_cons,List.zipWith_cons_cons,ih u (fun z hz=>hi z (by simp [hz])),writeC_same (by omega) (hi y (by simp))]
   exact this _ _ h.2
  unfold writeC
  rw [hm,hz]
theorem cMaj_lt (x:ND):cMaj x<8:=by
 unfold cMaj
 (repeat' split) <;> omega
theorem cCnt_lt {d:Nat} {x:ND} (h:validN (d+1) x=true) (hn:numsB (d+1) x=true):cCnt x<18446744073709551616:=by
 obtain ⟨hi,hl,htx,hns⟩:=validN_parts h
 obtain ⟨hw,hni⟩:=numsB_parts hn
 have h1:=textOk_size htx
 have h2:x.text.data.toList.length=x.text.size:=by rw [Array.length_toList];rfl
 unfold wideI at hw
 rw [Bool.and_eq_true,decide_eq_true_eq,decide_eq_true_eq] at hw
 unfold cCnt
 (repeat' split) <;> omega
def bodyC (d:Nat) (x:ND):List UInt8:=
 if x.kind=3 then x.text.data.toList
 else if x.kind=4 then x.items.flatMap (writeC d)
 else if x.kind=5 then (List.zipWith (fun s y=>cText s++writeC d y) x.names x.items).flatten
 else []
theorem writeC_succ (d:Nat) (x:ND):writeC (d+1) x=headL (cMaj x) (cCnt x)++bodyC d x:=rfl
theorem data_inj {a b:ByteArray} (h:a.data.toList=b.data.toList):a=b:=ByteArray.ext (Array.toList_inj.1 h)
theorem cText_inj {a b:ByteArray} {t t':List UInt8} (ha:a.size≤65536) (hb:b.size≤65536) (h:cText a++t=cText b++t'):a=b∧t=t':=by
 unfold cText at h
 rw [List.append_assoc,List.append_assoc] at h
 obtain ⟨-,h1,h2⟩:=headL_inj (by decide) (by decide) (by omega) (by omega) h
 obtain ⟨h3,h4⟩:=List.append_inj h2 (by rw [Array.length_toList,Array.length_toList];exact h1)
 exact ⟨data_inj h3,h4⟩
theorem flat_inj {W:ND→List UInt8}:∀ (xs ys:List ND) (t t':List UInt8),xs.length=ys.length→(∀x y t t',x ∈ xs→y ∈ ys→W x++t=W y++t'→x=y∧t=t')→xs.flatMap W++t=ys.flatMap W++t'→xs=ys∧t=t'
 | [],[],t,t',_,_,h=>⟨rfl,h⟩
 | [],_::_,_,_,h,_,_=>by simp at h
 | _::_,[],_,_,h,_,_=>by simp at h
 | x::xs,y::ys,t,t',hl,hw,h=>by
  rw [List.flatMap_cons,List.flatMap_cons,List.append_assoc,List.append_assoc] at h
  obtain ⟨rfl,h2⟩:=hw x y _ _ (by simp) (by simp) h
  obtain ⟨rfl,h3⟩:=flat_inj xs ys t t' (by simpa using hl) (fun a b u u' ha hb=>hw a b u u' (by simp [ha]) (by simp [hb])) h2
  exact ⟨rfl,h3⟩
theorem zipC_inj {W:ND→List UInt8}:∀ (ns ms:List ByteArray) (xs ys:List ND) (t t':List UInt8),ns.length=xs.length→ms.length=ys.length→xs.length=ys.length→(∀s,s ∈ ns→s.size≤65536)→(∀s,s ∈ ms→s.size≤65536)→(∀x y t t',x ∈ xs→y ∈ ys→W x++t=W y++t'→x=y∧t=t') →
 (List.zipWith (fun s y=>cText s++W y) ns xs).flatten++t=(List.zipWith (fun s y=>cText s++W y) ms ys).flatten++t'→ns=ms∧xs=ys∧t=t'
 | [],[],[],[],t,t',_,_,_,_,_,_,h=>⟨rfl,rfl,h⟩
 | n::ns,m::ms,x::xs,y::ys,t,t',h1,h2,h3,hn,hm,hw,h=>by
  rw [List.zipWith_cons_cons,List.zipWith_cons_cons,List.flatten_cons,List.flatten_cons,List.append_assoc,List.append_assoc,List.append_assoc,List.append_assoc] at h
  obtain ⟨rfl,h4⟩:=cText_inj (hn n (by simp)) (hm m (by simp)) h
  obtain ⟨rfl,h5⟩:=hw x y _ _ (by simp) (by simp) h4
  obtain ⟨rfl,rfl,h6⟩:=zipC_inj ns ms xs ys t t' (by simpa using h1) (by simpa using h2) (by simpa using h3) (fun s hs=>hn s (by simp [hs])) (fun s hs=>hm s (by simp [hs])) (fun a b u u' ha hb=>hw a b u u' (by simp [ha]) (by simp [hb])) h5
  exact ⟨rfl,rfl,h6⟩
 | [],_,_::_,_,_,_,h,_,_,_,_,_,_=>by simp at h
 | _::_,_,[],_,_,_,h,_,_,_,_,_,_=>by simp at h
 | _,[],_,_::_,_,_,_,h,_,_,_,_,_=>by simp at h
 | _,_::_,_,[],_,_,_,h,_,_,_,_,_=>by simp at h
 | [],_::_,[],_::_,_,_,_,_,h,_,_,_,_=>by simp at h
theorem textOk_le {s:ByteArray} (h:textOk s=true):s.size≤65536:=by
 have h1:=textOk_size h
 have h2:s.data.toList.length=s.size:=by rw [Array.length_toList];rfl
 omega
theorem writeC_app_inj:∀ (d:Nat) (x y:ND) (t t':List UInt8),validN d x=true→numsB d x=true→validN d y=true→numsB d y=true→writeC d x++t=writeC d y++t'→x=y∧t=t'
 | 0,_,_,_,_,h,_,_,_,_=>by cases h
 | d+1,x,y,t,t',hx,nx,hy,ny,h=>by
  rw [writeC_succ,writeC_succ,List.append_assoc,List.append_assoc] at h
  obtain ⟨hm,hc,hr⟩:=headL_inj (cMaj_lt x) (cMaj_lt y) (cCnt_lt hx nx) (cCnt_lt hy ny) h
  obtain ⟨ix,lx,tx,sx⟩:=validN_parts hx
  obtain ⟨iy,ly,ty,sy⟩:=validN_parts hy
  obtain ⟨wx,mx⟩:=numsB_parts nx
  obtain ⟨wy,my⟩:=numsB_parts ny
  have ih:∀a b u u',a ∈ x.items→b ∈ y.items→writeC d a++u=writeC d b++u'→a=b∧u=u':=fun a b u u' ha hb=>writeC_app_inj d a b u u' (ix a ha) (mx a ha) (iy b hb) (my b hb)
  have kx:=kinds hx
  have ky:=kinds hy
  obtain ⟨k,b,n,tt,ns,its⟩:=x
  obtain ⟨k',b',n',tt',ns',its'⟩:=y
  unfold nd0 at kx ky
  simp only [ND.mk.injEq,ND.kind,ND.bool,ND.num,ND.text,ND.names,ND.items] at *
  unfold cMaj at hm
  unfold cCnt at hc
  unfold bodyC at hr
  simp only [ND.kind,ND.bool,ND.num,ND.text,ND.names,ND.items] at hm hc hr
  rcases kx with ⟨rfl,rfl,rfl,rfl,rfl,rfl⟩ | ⟨rfl,-,rfl,rfl,rfl,rfl⟩ | ⟨rfl,rfl,-,rfl,rfl,rfl⟩ | ⟨rfl,rfl,rfl,-,rfl,rfl⟩ | ⟨rfl,rfl,rfl,rfl,rfl,-⟩ | ⟨⟨rfl,rfl,rfl,rfl,-,-⟩,hlx⟩ <;>
  rcases ky with ⟨rfl,rfl,rfl,rfl,rfl,rfl⟩ | ⟨rfl,-,rfl,rfl,rfl,rfl⟩ | ⟨rfl,rfl,-,rfl,rfl,rfl⟩ | ⟨rfl,rfl,rfl,-,rfl,rfl⟩ | ⟨rfl,rfl,rfl,rfl,rfl,-⟩ | ⟨⟨rfl,rfl,rfl,rfl,-,-⟩,hly⟩ <;>
  simp at hm hc hr <;> first
   | (exfalso;by_cases hq:n'<0 <;> simp [hq] at hm;done)
   | (exfalso;by_cases hq:n<0 <;> simp [hq] at hm;done)
   | (exfalso;revert hc;cases b' <;> simp;done)
   | (exfalso;revert hc;cases b <;> simp;done)
   | (exact ⟨⟨rfl,rfl,rfl,rfl,rfl,rfl⟩,hr⟩)
   | (refine ⟨⟨rfl,?_,rfl,rfl,rfl,rfl⟩,hr⟩;revert hc;cases b <;> cases b' <;> simp)
   | (refine ⟨⟨rfl,rfl,?_,rfl,rfl,rfl⟩,hr⟩;by_cases hq:n<0 <;> by_cases hq':n'<0 <;> simp [hq,hq'] at hm hc <;> omega)
   | (obtain ⟨h3,h4⟩:=List.append_inj hr (by rw [Array.length_toList,Array.length_toList];exact hc);exact ⟨⟨rfl,rfl,rfl,data_inj h3,rfl,rfl⟩,h4⟩)
   | (obtain ⟨h3,h4⟩:=flat_inj its its' t t' hc ih hr;exact ⟨⟨rfl,rfl,rfl,rfl,rfl,h3⟩,h4⟩)
   | (obtain ⟨h3,h4,h5⟩:=zipC_inj ns ns' its its' t t' hlx hly hc (fun s hs=>textOk_le (sx s hs)) (fun s hs=>textOk_le (sy s hs)) ih hr;exact ⟨⟨rfl,rfl,rfl,rfl,h3,h4⟩,h5⟩)
theorem headL_cost {m:Nat} (n:Nat):(headL m n).length≤9:=by rw [headL_length];have:=headK_le n;omega
theorem cText_cost (s:ByteArray):(cText s).length≤6 * s.size+8:=by
 have h2:s.data.toList.length=s.size:=by rw [Array.length_toList];rfl
 unfold cText
 rw [Lg,headL_length,h2]
 unfold headK
 (repeat' split) <;> omega
theorem flatC_sum {W:ND→List UInt8} {c:ND→Nat}:∀ (its:List ND),(∀y,y ∈ its→(W y).length≤c y)→(its.flatMap W).length≤(its.map fun y=>c y+1).sum
 | [],_=>Lr _
 | y::ys,h=>by
  have ih:=flatC_sum ys (fun z hz=>h z (by simp [hz]))
  have h3:=h y (by simp)
  rw [List.flatMap_cons,Lg,List.map_cons,List.sum_cons]
  omega
theorem zipC_sum {W:ND→List UInt8} {c:ND→Nat}:∀ (ns:List ByteArray) (its:List ND),(∀y,y ∈ its→(W y).length≤c y)→(List.zipWith (fun s y=>cText s++W y) ns its).flatten.length≤(ns.map fun s=>6 * s.size+8).sum+(its.map fun y=>c y+1).sum
 | [],_,_=>by simp
 | _::_,[],_=>by simp
 | s::ss,y::ys,h=>by
  have ih:=zipC_sum ss ys (fun z hz=>h z (by simp [hz]))
  have h1:=cText_cost s
  have h3:=h y (by simp)
  rw [List.zipWith_cons_cons,List.flatten_cons,Lg,Lg,List.map_cons,List.sum_cons,List.map_cons,List.sum_cons]
  omega
theorem writeC_cost:∀ (d:Nat) (x:ND),validN d x=true→(writeC d x).length≤costN d x
 | 0,_,h=>by cases h
 | d+1,x,h=>by
  obtain ⟨hi,hl,htx,hns⟩:=validN_parts h
  have ih:∀y,y ∈ x.items→(writeC d y).length≤costN d y:=fun y hy=>writeC_cost d y (hi y hy)
  have hts:x.text.data.toList.length=x.text.size:=by rw [Array.length_toList];rfl
  have h9:=headL_cost (m:=cMaj x) (cCnt x)
  have h1:=flatC_sum x.items ih
  have h2:=zipC_sum (W:=writeC d) x.names x.items ih
  rw [costN_succ,writeC_succ,Lg]
  unfold bodyC
  split
  ·omega
  ·split
   ·omega
   ·split
    ·omega
    ·simp;omega
end Go.Proofs.YtdppdonaojdceaaGreatDoor
namespace Go.Proofs.YtdppdonaojdceaaGreatDoor
open Go Go.ChangeShapes Go.WideShapes Go.ChangeAt Go.RowKit
def bC (l:List UInt8):ByteArray:=⟨l.toArray⟩
theorem bC_data (l:List UInt8):(bC l).data.toList=l:=by simp [bC]
theorem bC_size (l:List UInt8):(bC l).size=l.length:=by simp [bC,ByteArray.size]
theorem bC_of (s:ByteArray):bC s.data.toList=s:=by cases s;simp [bC]
theorem bC_app (a b:List UInt8):bC a++bC b=bC (a++b):=by
 apply data_inj
 rw [ByteArray.data_append,Array.toList_append,bC_data,bC_data,bC_data]
theorem bigL_take (n:Nat):∀k j,j<k→(bigL n k).take (j+1)=(bigL n k).take j++[UInt8.ofNat (n / 256 ^ (k - 1 - j))]
 | 0,j,h=>by omega
 | k+1,0,_=>by rw [bigL];rfl
 | k+1,j+1,h=>by
  have:=bigL_take n k j (by omega)
  rw [bigL,List.take_succ_cons,List.take_succ_cons,this,show k+1 - 1 - (j+1)=k - 1 - j by omega]
  rfl
theorem byte_at (n i:Nat):(n:Int) / 2 ^ (8 * i) % 256=((UInt8.ofNat (n / 256 ^ i)).toNat:Int):=by
 have h:(2:Int) ^ (8 * i)=((256 ^ i:Nat):Int):=by
  rw [show (256:Nat)=2 ^ 8 from rfl,←Nat.pow_mul,Int.natCast_pow];rfl
 rw [h,UInt8.toNat_ofNat',←Int.natCast_ediv]
 rfl
theorem rbig_any (n:Nat) (k:Nat) (w:World) (hk:k≤8) (hn:n<18446744073709551616):Calls Tryz.prog 94 #[.int .u64 (n:Int),.int .i64 (k:Int)] w fun e w'=>e=.returned (.string (bC (bigL n k)))∧Below w.heap.size w w':=by
 obtain ⟨ib,hib,hb0,hb1,hb2⟩:=info_parts Tryz.info5
 have hub:=Tryz.underlying56
 have hu8:=Tryz.underlying5
 have hust:=Tryz.underlying9
 have HIB:=Hh hib
 have hk8:(k:Int)≤8:=by omega
 have hk1:IntKind.i64.wrap ((k:Int) - 1)=(k:Int) - 1:=IntWalk.i64_in _ (by omega)
 obtain ⟨N,hN⟩:∃N:Int,N=(n:Int):=⟨_,rfl⟩
 rw [←hN]
 have HN:=Hh (Ai hN hn)
 clear hN hn hib
 go_enter Tryz.func94,Tryz.ntmps94
 go_upto_region 3 with fail
 go_loopw [5,6] (fun v i wr=>∃ (j:Nat),i=.int .i64 ((k:Int) - 1 - (j:Int))∧j≤k∧wr.ownsRow w.heap.size 5 1 v j (bytesV ((bigL n k).take j))∧Below w.heap.size w wr) (fun _ i _=>(intOf i+1).toNat)
 case atStart=>exact ⟨0,by simp,Nat.zero_le _,World.ownsRow_nil w _ _ _,Br _ _⟩
 case round=>
  obtain ⟨j,rfl,hj,hown,hB⟩:=hrel
  have HROW:=Hh (Ai hown hB)
  clear hown hB
  by_cases hlt:j<k
  ·have hge:(0:Int)≤(k:Int) - 1 - (j:Int):=by omega
   obtain ⟨i,hi⟩:∃i:Nat,(i:Int)=(k:Int) - 1 - (j:Int):=⟨k - 1 - j,by omega⟩
   have hi7:(i:Int)≤7:=by omega
   have hi0:(0:Int)≤(i:Int):=by omega
   rw [←hi] at hge ⊢
   have HI:=Hh hi
   clear hi hge
   obtain ⟨c,hcc⟩:∃c,c=UInt8.ofNat (n / 256 ^ i):=⟨_,rfl⟩
   have hc:N / 2 ^ (8 * i) % 256=(c.toNat:Int):=by rw [HN.out.1,hcc];exact byte_at n i
   have HC:=Hh hcc
   have hbl:((bigL n k).take j).length=j:=by rw [List.length_take,bigL_length];omega
   have HBL:=Hh hbl
   clear hcc hbl
   go_wp2_with (refine wpList_append_lies _ rfl (.tmp 13) (.tmp 20) 56 rfl w.heap.size 5 ib (.int .u8 0) 1 1 hub HIB.out hb0 hb1 hb2 rfl (by decide) _ j _ rfl (HROW.out.1.alloc (.cells #[.int .u8 (c.toNat:Int)] 5)) ⟨wr.heap.size,0,none⟩ 1 1 [.int .u8 (c.toNat:Int)] rfl rfl (cells_new wr #[.int .u8 (c.toNat:Int)] 5 [.int .u8 (c.toNat:Int)] rfl) (by intro u hu;simp only [List.mem_cons,List.not_mem_nil,or_false] at hu;rcases hu with rfl;rfl) (by decide) (by unfold maxLen;omega) (by omega) (by have:=HROW.out.2.size;simp;omega) _ rfl ?_;intro gg cc W8 hown hgrow hat hlt2)
   have hB8:=obelow (HROW.out.2.alloc HROW.out.2.size (.cells #[.int .u8 (c.toNat:Int)] 5)) (HROW.out.1.alloc (.cells #[.int .u8 (c.toNat:Int)] 5)) hgrow (by have:=HROW.out.2.size;simp;omega)
   have F:Hid (W8.ownsRow w.heap.size 5 1 (.slice (some ⟨gg,0,none⟩) (j+1) cc) (j+1) (bytesV ((bigL n k).take (j+1)))∧Below w.heap.size w W8):=Hh ⟨by
    rw [bigL_take n k j hlt,bytesV_append,show k - 1 - j=i by have:=HI.out;omega,←HC.out]
    exact hown,hB8⟩
   clear hown hgrow hat hB8
   go_wp2
   go_roundw
   case rel=>exact ⟨j+1,by have:=HI.out;exact congrArg _ (by omega),by omega,F.out.1,F.out.2⟩
   case measure=>simp [intOf] <;> omega
  ·have hj2:j=k:=by omega
   have hge:¬ (0:Int)≤(k:Int) - 1 - (j:Int):=by omega
   have hcv:=conv_owns (P:=Tryz.prog) wr 56 9 5 w.heap.size j _ ((bigL n k).take j) HROW.out.1 hub hu8 hust
   rw [hj2,List.take_of_length_le (by rw [bigL_length];exact Lr _)] at hcv
   have HJ:=Hh hj2
   clear hj2
   go_wp2
   go_ret
   exact ⟨rfl,HROW.out.2⟩
theorem head_bits:∀m v:Nat,m<8→v<32→bits BinOp.or IntKind.u8 ((m:Int) * 32) (v:Int)=((UInt8.ofNat (32 * m+v)).toNat:Int):=by
 have:∀ (m:Fin 8) (v:Fin 32),bits BinOp.or IntKind.u8 ((m.1:Int) * 32) (v.1:Int)=((UInt8.ofNat (32 * m.1+v.1)).toNat:Int):=by decide +kernel
 exact fun m v hm hv=>this ⟨m,hm⟩ ⟨v,hv⟩
theorem rhead_any (m n:Nat) (w:World) (hm:m<8) (hn:n<18446744073709551616):Calls Tryz.prog 57 #[.int .i64 (m:Int),.int .u64 (n:Int)] w fun e w'=>e=.returned (.string (bC (headL m n)))∧Below w.heap.size w w':=by
 have hmz:(0:Int)≤(m:Int):=by omega
 have hm8:(m:Int)<8:=by omega
 obtain ⟨N,hN⟩:∃N:Int,N=(n:Int):=⟨_,rfl⟩
 rw [←hN]
 have HN:=Hh (Ai hN hn)
 have RB:=Hh (fun k (hk:k≤8) wx=>rbig_any n k wx hk hn)
 rw [←hN] at RB
 have CV:Hid (∀ (W:World) (b:Nat) {c:UInt8},W.heap[b]?=some (.cells #[.int .u8 (c.toNat:Int)] 5 (0,0))→(convert 56 9 (.slice (some ⟨b,0,none⟩) 1 1)).run Tryz.prog W=.ok (.string (bC [c])) W):=Hh fun W b c h=>
  run_convert_bytes_back W _ _ 5 ⟨b,0,none⟩ 1 [c] Tryz.underlying56 Tryz.underlying5 Tryz.underlying9 fun j hj=>(by
   obtain rfl:j=0:=by simpa using hj
   exact cells_lit [Value.int .u8 (c.toNat:Int)] h rfl 0 _ rfl)
 have CAT:Hid (∀ (c:UInt8) k,k≤8→¬9223372036854775807<(bC [c]).size+(bC (bigL n k)).size):=Hh fun c k hk=>by rw [bC_size,bC_size,bigL_length];simp;omega
 clear hn
 by_cases h24:n<24
 ·have h24':N<24:=by omega
  obtain ⟨c,hcc⟩:∃c,c=UInt8.ofNat (32 * m+n):=⟨_,rfl⟩
  have hor:bits BinOp.or IntKind.u8 ((m:Int) * 32) (N % 256)=(c.toNat:Int):=by rw [hcc,show N % 256=(n:Int) by omega];exact head_bits m n hm (by omega)
  have HDR:Hid (bC (headL m n)=bC [c]):=Hh (by rw [headL,hcc,show headV n=n by unfold headV;exact if_pos h24,show headK n=0 by unfold headK;exact if_pos h24];rfl)
  have ka:=Hn w (.cells #[.int .u8 (c.toNat:Int)] 5)
  have hcv:=CV.out _ _ ka
  clear h24 hcc hN ka
  go_enter Tryz.func57,Tryz.ntmps57
  go_wp2
  go_ret
  exact ⟨by rw [HDR.out];rfl,(Br _ _).alloc (Lr _) _⟩
 ·have h24':¬N<24:=by omega
  by_cases h256:n<256
  ·have h256':N<256:=by omega
   obtain ⟨c,hcc⟩:∃c,c=UInt8.ofNat (32 * m+24):=⟨_,rfl⟩
   have HC:=Hh hcc
   have HOR:Hid (bits BinOp.or IntKind.u8 ((m:Int) * 32) 24=(c.toNat:Int)):=Hh (by rw [hcc];exact head_bits m 24 hm (by decide))
   clear hcc
   have HDR:Hid (bC [c]++bC (bigL n 1)=bC (headL m n)):=Hh (by
    rw [bC_app,HC.out,headL,show headV n=24 by unfold headV;rw [if_neg h24,if_pos h256],show headK n=1 by unfold headK;rw [if_neg h24,if_pos h256]]
    rfl)
   have hor:bits BinOp.or IntKind.u8 ((m:Int) * 32) 24=(c.toNat:Int):=HOR.out
   clear hN
   go_enter Tryz.func57,Tryz.ntmps57
   go_upto_region 5 with fail
   have hbw:Below w.heap.size w w.drew:=(Br _ _).drew
   refine wp_region_plan (fun w'=>True) [] (.take 0 (.take 1 (.take 4 (Plan.join true (.ask 2 false (.ask 3 false (.ask 5 false .stop .stop) (.ask 5 false (.ask 3 false .stop .stop) .stop)) (.ask 5 false (.ask 2 false (.ask 3 false .stop .stop) .stop) .stop)) (.ask 6 false (.ask 7 false .stop .stop) .stop))))) (by kernel_rfl) (by kernel_rfl) (fun _ d _ _ _ h=>by cases d <;> exact h) trivial ?_
   generalize w.drew=wd at hbw ⊢
   refine take_any _ ?_ rfl rfl ?_ (fun K hK=>?_);rotate_left;(intro w0;go_simp;(try rfl));(go_simp;refine hK _ ?_;clear hK K)
   refine take_any _ ?_ rfl rfl ?_ (fun K hK=>?_);rotate_left;(intro w0;go_simp;(try rfl));(go_simp;refine hK _ ?_;clear hK K)
   refine take_any _ ?_ rfl rfl ?_ (fun K hK=>?_);rotate_left;(intro w0;go_simp;(try rfl));(go_simp;refine hK _ ?_;clear hK K)
   have RBk:=Hh (fun wx=>RB.out 1 (by decide) wx)
   rw [show ((1:Nat):Int)=1 from rfl] at RBk
   refine plan_cut [23,24,26] (fun vs wx=>∃v23,vs=[v23,.string (bC [c]),.string (bC (bigL n 1))]∧Below w.heap.size w wx) ?_ ?_
   ·refine ask_late _ rfl ?_ ?_
    rotate_left
    ·go_wp2_with fail;refine Seg.mk ?_
     have ka:=Hn wd (.cells #[.int .u8 (c.toNat:Int)] 5)
     have ba:=hbw.alloc (o:=.cells #[.int .u8 (c.toNat:Int)] 5) hbw.size
     have hla:wd.heap.size<(wd.alloc (.cells #[.int .u8 (c.toNat:Int)] 5)).heap.size:=by simp
     generalize wd.alloc (.cells #[.int .u8 (c.toNat:Int)] 5)=wa at ka ba hla ⊢
     have hcv:=CV.out wa _ ka
     refine ask_late _ rfl ?_ ?_
     rotate_left
     ·go_wp2_with fail;refine Seg.mk ?_
      refine ask_late _ rfl trivial ?_;go_wp2_with (go_at_call 94;(with_reducible refine (RBk.out _).mono ?_);rintro e w2 ⟨rfl,hb2⟩);refine Seg.mk ?_
      exact plan_meet [.slice (some ⟨wd.heap.size,0,none⟩) 1 1,.string (bC [c]),.string (bC (bigL n 1))] (by first | exact ⟨_,rfl,ba.trans (hb2.mono ba.size)⟩ | exact ⟨⟨_,rfl⟩,ba.trans (hb2.mono ba.size)⟩) rfl
     ·refine ask_late _ rfl trivial ?_;go_wp2_with (go_at_call 94;(with_reducible refine (RBk.out _).mono ?_);rintro e w2 ⟨rfl,hb2⟩);refine Seg.mk ?_
      have hcv2:=CV.out w2 _ ((hb2.block _ hla).trans ka)
      refine ask_late _ rfl trivial ?_;go_wp2_with fail;refine Seg.mk ?_
      exact plan_meet [.slice (some ⟨wd.heap.size,0,none⟩) 1 1,.string (bC [c]),.string (bC (bigL n 1))] (by first | exact ⟨_,rfl,ba.trans (hb2.mono ba.size)⟩ | exact ⟨⟨_,rfl⟩,ba.trans (hb2.mono ba.size)⟩) rfl
    ·refine ask_late _ rfl trivial ?_;go_wp2_with (go_at_call 94;(with_reducible refine (RBk.out _).mono ?_);rintro e w2 ⟨rfl,hb2⟩);refine Seg.mk ?_
     have b2:=hbw.trans (hb2.mono hbw.size)
     refine ask_late _ rfl trivial ?_;go_wp2_with fail;refine Seg.mk ?_
     have ka:=Hn w2 (.cells #[.int .u8 (c.toNat:Int)] 5)
     have ba:=b2.alloc (o:=.cells #[.int .u8 (c.toNat:Int)] 5) b2.size
     generalize w2.alloc (.cells #[.int .u8 (c.toNat:Int)] 5)=wa at ka ba ⊢
     have hcv:=CV.out wa _ ka
     refine ask_late _ rfl trivial ?_;go_wp2_with fail;refine Seg.mk ?_
     exact plan_meet [.slice (some ⟨w2.heap.size,0,none⟩) 1 1,.string (bC [c]),.string (bC (bigL n 1))] (by first | exact ⟨_,rfl,ba⟩ | exact ⟨⟨_,rfl⟩,ba⟩) rfl
   ·rintro vs w' ⟨v23,rfl,hbl⟩
    simp only [puts,Act.put,List.setIfInBounds_toArray,List.set_cons_zero,List.set_cons_succ]
    have hcat:=CAT.out c 1 (by decide)
    have HBL:=Hh hbl
    clear hbl
    refine ask_late _ rfl trivial ?_;go_wp2_with fail;refine Seg.mk ?_
    refine ask_last _ rfl trivial ?_
    go_wp2
    go_ret
    exact ⟨by rw [HDR.out];rfl,HBL.out⟩
  ·have h256':¬N<256:=by omega
   by_cases h65:n<65536
   ·have h65':N<65536:=by omega
    obtain ⟨c,hcc⟩:∃c,c=UInt8.ofNat (32 * m+25):=⟨_,rfl⟩
    have HC:=Hh hcc
    have HOR:Hid (bits BinOp.or IntKind.u8 ((m:Int) * 32) 25=(c.toNat:Int)):=Hh (by rw [hcc];exact head_bits m 25 hm (by decide))
    clear hcc
    have HDR:Hid (bC [c]++bC (bigL n 2)=bC (headL m n)):=Hh (by
     rw [bC_app,HC.out,headL,show headV n=25 by unfold headV;rw [if_neg h24,if_neg h256,if_pos h65],show headK n=2 by unfold headK;rw [if_neg h24,if_neg h256,if_pos h65]]
     rfl)
    have hor:bits BinOp.or IntKind.u8 ((m:Int) * 32) 25=(c.toNat:Int):=HOR.out
    clear hN
    go_enter Tryz.func57,Tryz.ntmps57
    go_upto_region 7 with fail
    have hbw:Below w.heap.size w w.drew:=(Br _ _).drew
    refine wp_region_plan (fun w'=>True) [] (.take 0 (.take 1 (.take 4 (Plan.join true (.ask 2 false (.ask 3 false (.ask 5 false .stop .stop) (.ask 5 false (.ask 3 false .stop .stop) .stop)) (.ask 5 false (.ask 2 false (.ask 3 false .stop .stop) .stop) .stop)) (.ask 6 false (.ask 7 false .stop .stop) .stop))))) (by kernel_rfl) (by kernel_rfl) (fun _ d _ _ _ h=>by cases d <;> exact h) trivial ?_
    generalize w.drew=wd at hbw ⊢
    refine take_any _ ?_ rfl rfl ?_ (fun K hK=>?_);rotate_left;(intro w0;go_simp;(try rfl));(go_simp;refine hK _ ?_;clear hK K)
    refine take_any _ ?_ rfl rfl ?_ (fun K hK=>?_);rotate_left;(intro w0;go_simp;(try rfl));(go_simp;refine hK _ ?_;clear hK K)
    refine take_any _ ?_ rfl rfl ?_ (fun K hK=>?_);rotate_left;(intro w0;go_simp;(try rfl));(go_simp;refine hK _ ?_;clear hK K)
    have RBk:=Hh (fun wx=>RB.out 2 (by decide) wx)
    rw [show ((2:Nat):Int)=2 from rfl] at RBk
    refine plan_cut [33,34,36] (fun vs wx=>∃v23,vs=[v23,.string (bC [c]),.string (bC (bigL n 2))]∧Below w.heap.size w wx) ?_ ?_
    ·refine ask_late _ rfl ?_ ?_
     rotate_left
     ·go_wp2_with fail;refine Seg.mk ?_
      have ka:=Hn wd (.cells #[.int .u8 (c.toNat:Int)] 5)
      have ba:=hbw.alloc (o:=.cells #[.int .u8 (c.toNat:Int)] 5) hbw.size
      have hla:wd.heap.size<(wd.alloc (.cells #[.int .u8 (c.toNat:Int)] 5)).heap.size:=by simp
      generalize wd.alloc (.cells #[.int .u8 (c.toNat:Int)] 5)=wa at ka ba hla ⊢
      have hcv:=CV.out wa _ ka
      refine ask_late _ rfl ?_ ?_
      rotate_left
      ·go_wp2_with fail;refine Seg.mk ?_
       refine ask_late _ rfl trivial ?_;go_wp2_with (go_at_call 94;(with_reducible refine (RBk.out _).mono ?_);rintro e w2 ⟨rfl,hb2⟩);refine Seg.mk ?_
       exact plan_meet [.slice (some ⟨wd.heap.size,0,none⟩) 1 1,.string (bC [c]),.string (bC (bigL n 2))] (by first | exact ⟨_,rfl,ba.trans (hb2.mono ba.size)⟩ | exact ⟨⟨_,rfl⟩,ba.trans (hb2.mono ba.size)⟩) rfl
      ·refine ask_late _ rfl trivial ?_;go_wp2_with (go_at_call 94;(with_reducible refine (RBk.out _).mono ?_);rintro e w2 ⟨rfl,hb2⟩);refine Seg.mk ?_
       have hcv2:=CV.out w2 _ ((hb2.block _ hla).trans ka)
       refine ask_late _ rfl trivial ?_;go_wp2_with fail;refine Seg.mk ?_
       exact plan_meet [.slice (some ⟨wd.heap.size,0,none⟩) 1 1,.string (bC [c]),.string (bC (bigL n 2))] (by first | exact ⟨_,rfl,ba.trans (hb2.mono ba.size)⟩ | exact ⟨⟨_,rfl⟩,ba.trans (hb2.mono ba.size)⟩) rfl
     ·refine ask_late _ rfl trivial ?_;go_wp2_with (go_at_call 94;(with_reducible refine (RBk.out _).mono ?_);rintro e w2 ⟨rfl,hb2⟩);refine Seg.mk ?_
      have b2:=hbw.trans (hb2.mono hbw.size)
      refine ask_late _ rfl trivial ?_;go_wp2_with fail;refine Seg.mk ?_
      have ka:=Hn w2 (.cells #[.int .u8 (c.toNat:Int)] 5)
      have ba:=b2.alloc (o:=.cells #[.int .u8 (c.toNat:Int)] 5) b2.size
      generalize w2.alloc (.cells #[.int .u8 (c.toNat:Int)] 5)=wa at ka ba ⊢
      have hcv:=CV.out wa _ ka
      refine ask_late _ rfl trivial ?_;go_wp2_with fail;refine Seg.mk ?_
      exact plan_meet [.slice (some ⟨w2.heap.size,0,none⟩) 1 1,.string (bC [c]),.string (bC (bigL n 2))] (by first | exact ⟨_,rfl,ba⟩ | exact ⟨⟨_,rfl⟩,ba⟩) rfl
    ·rintro vs w' ⟨v23,rfl,hbl⟩
     simp only [puts,Act.put,List.setIfInBounds_toArray,List.set_cons_zero,List.set_cons_succ]
     have hcat:=CAT.out c 2 (by decide)
     have HBL:=Hh hbl
     clear hbl
     refine ask_late _ rfl trivial ?_;go_wp2_with fail;refine Seg.mk ?_
     refine ask_last _ rfl trivial ?_
     go_wp2
     go_ret
     exact ⟨by rw [HDR.out];rfl,HBL.out⟩
   ·have h65':¬N<65536:=by omega
    by_cases h32:n<4294967296
    ·have h32':N<4294967296:=by omega
     obtain ⟨c,hcc⟩:∃c,c=UInt8.ofNat (32 * m+26):=⟨_,rfl⟩
     have HC:=Hh hcc
     have HOR:Hid (bits BinOp.or IntKind.u8 ((m:Int) * 32) 26=(c.toNat:Int)):=Hh (by rw [hcc];exact head_bits m 26 hm (by decide))
     clear hcc
     have HDR:Hid (bC [c]++bC (bigL n 4)=bC (headL m n)):=Hh (by
      rw [bC_app,HC.out,headL,show headV n=26 by unfold headV;rw [if_neg h24,if_neg h256,if_neg h65,if_pos h32],show headK n=4 by unfold headK;rw [if_neg h24,if_neg h256,if_neg h65,if_pos h32]]
      rfl)
     have hor:bits BinOp.or IntKind.u8 ((m:Int) * 32) 26=(c.toNat:Int):=HOR.out
     clear hN
     go_enter Tryz.func57,Tryz.ntmps57
     go_upto_region 9 with fail
     have hbw:Below w.heap.size w w.drew:=(Br _ _).drew
     refine wp_region_plan (fun w'=>True) [] (.take 0 (.take 1 (.take 4 (Plan.join true (.ask 2 false (.ask 3 false (.ask 5 false .stop .stop) (.ask 5 false (.ask 3 false .stop .stop) .stop)) (.ask 5 false (.ask 2 false (.ask 3 false .stop .stop) .stop) .stop)) (.ask 6 false (.ask 7 false .stop .stop) .stop))))) (by kernel_rfl) (by kernel_rfl) (fun _ d _ _ _ h=>by cases d <;> exact h) trivial ?_
     generalize w.drew=wd at hbw ⊢
     refine take_any _ ?_ rfl rfl ?_ (fun K hK=>?_);rotate_left;(intro w0;go_simp;(try rfl));(go_simp;refine hK _ ?_;clear hK K)
     refine take_any _ ?_ rfl rfl ?_ (fun K hK=>?_);rotate_left;(intro w0;go_simp;(try rfl));(go_simp;refine hK _ ?_;clear hK K)
     refine take_any _ ?_ rfl rfl ?_ (fun K hK=>?_);rotate_left;(intro w0;go_simp;(try rfl));(go_simp;refine hK _ ?_;clear hK K)
     have RBk:=Hh (fun wx=>RB.out 4 (by decide) wx)
     rw [show ((4:Nat):Int)=4 from rfl] at RBk
     refine plan_cut [43,44,46] (fun vs wx=>∃v23,vs=[v23,.string (bC [c]),.string (bC (bigL n 4))]∧Below w.heap.size w wx) ?_ ?_
     ·refine ask_late _ rfl ?_ ?_
      rotate_left
      ·go_wp2_with fail;refine Seg.mk ?_
       have ka:=Hn wd (.cells #[.int .u8 (c.toNat:Int)] 5)
       have ba:=hbw.alloc (o:=.cells #[.int .u8 (c.toNat:Int)] 5) hbw.size
       have hla:wd.heap.size<(wd.alloc (.cells #[.int .u8 (c.toNat:Int)] 5)).heap.size:=by simp
       generalize wd.alloc (.cells #[.int .u8 (c.toNat:Int)] 5)=wa at ka ba hla ⊢
       have hcv:=CV.out wa _ ka
       refine ask_late _ rfl ?_ ?_
       rotate_left
       ·go_wp2_with fail;refine Seg.mk ?_
        refine ask_late _ rfl trivial ?_;go_wp2_with (go_at_call 94;(with_reducible refine (RBk.out _).mono ?_);rintro e w2 ⟨rfl,hb2⟩);refine Seg.mk ?_
        exact plan_meet [.slice (some ⟨wd.heap.size,0,none⟩) 1 1,.string (bC [c]),.string (bC (bigL n 4))] (by first | exact ⟨_,rfl,ba.trans (hb2.mono ba.size)⟩ | exact ⟨⟨_,rfl⟩,ba.trans (hb2.mono ba.size)⟩) rfl
       ·refine ask_late _ rfl trivial ?_;go_wp2_with (go_at_call 94;(with_reducible refine (RBk.out _).mono ?_);rintro e w2 ⟨rfl,hb2⟩);refine Seg.mk ?_
        have hcv2:=CV.out w2 _ ((hb2.block _ hla).trans ka)
        refine ask_late _ rfl trivial ?_;go_wp2_with fail;refine Seg.mk ?_
        exact plan_meet [.slice (some ⟨wd.heap.size,0,none⟩) 1 1,.string (bC [c]),.string (bC (bigL n 4))] (by first | exact ⟨_,rfl,ba.trans (hb2.mono ba.size)⟩ | exact ⟨⟨_,rfl⟩,ba.trans (hb2.mono ba.size)⟩) rfl
      ·refine ask_late _ rfl trivial ?_;go_wp2_with (go_at_call 94;(with_reducible refine (RBk.out _).mono ?_);rintro e w2 ⟨rfl,hb2⟩);refine Seg.mk ?_
       have b2:=hbw.trans (hb2.mono hbw.size)
       refine ask_late _ rfl trivial ?_;go_wp2_with fail;refine Seg.mk ?_
       have ka:=Hn w2 (.cells #[.int .u8 (c.toNat:Int)] 5)
       have ba:=b2.alloc (o:=.cells #[.int .u8 (c.toNat:Int)] 5) b2.size
       generalize w2.alloc (.cells #[.int .u8 (c.toNat:Int)] 5)=wa at ka ba ⊢
       have hcv:=CV.out wa _ ka
       refine ask_late _ rfl trivial ?_;go_wp2_with fail;refine Seg.mk ?_
       exact plan_meet [.slice (some ⟨w2.heap.size,0,none⟩) 1 1,.string (bC [c]),.string (bC (bigL n 4))] (by first | exact ⟨_,rfl,ba⟩ | exact ⟨⟨_,rfl⟩,ba⟩) rfl
     ·rintro vs w' ⟨v23,rfl,hbl⟩
      simp only [puts,Act.put,List.setIfInBounds_toArray,List.set_cons_zero,List.set_cons_succ]
      have hcat:=CAT.out c 4 (by decide)
      have HBL:=Hh hbl
      clear hbl
      refine ask_late _ rfl trivial ?_;go_wp2_with fail;refine Seg.mk ?_
      refine ask_last _ rfl trivial ?_
      go_wp2
      go_ret
      exact ⟨by rw [HDR.out];rfl,HBL.out⟩
    ·have h32':¬N<4294967296:=by omega
     obtain ⟨c,hcc⟩:∃c,c=UInt8.ofNat (32 * m+27):=⟨_,rfl⟩
     have HC:=Hh hcc
     have HOR:Hid (bits BinOp.or IntKind.u8 ((m:Int) * 32) 27=(c.toNat:Int)):=Hh (by rw [hcc];exact head_bits m 27 hm (by decide))
     clear hcc
     have HDR:Hid (bC [c]++bC (bigL n 8)=bC (headL m n)):=Hh (by
      rw [bC_app,HC.out,headL,show headV n=27 by unfold headV;rw [if_neg h24,if_neg h256,if_neg h65,if_neg h32],show headK n=8 by unfold headK;rw [if_neg h24,if_neg h256,if_neg h65,if_neg h32]]
      rfl)
     have hor:bits BinOp.or IntKind.u8 ((m:Int) * 32) 27=(c.toNat:Int):=HOR.out
     clear hN
     go_enter Tryz.func57,Tryz.ntmps57
     go_upto_region 10 with fail
     have hbw:Below w.heap.size w w.drew:=(Br _ _).drew
     refine wp_region_plan (fun w'=>True) [] (.take 0 (.take 1 (.take 4 (Plan.join true (.ask 2 false (.ask 3 false (.ask 5 false .stop .stop) (.ask 5 false (.ask 3 false .stop .stop) .stop)) (.ask 5 false (.ask 2 false (.ask 3 false .stop .stop) .stop) .stop)) (.ask 6 false (.ask 7 false .stop .stop) .stop))))) (by kernel_rfl) (by kernel_rfl) (fun _ d _ _ _ h=>by cases d <;> exact h) trivial ?_
     generalize w.drew=wd at hbw ⊢
     refine take_any _ ?_ rfl rfl ?_ (fun K hK=>?_);rotate_left;(intro w0;go_simp;(try rfl));(go_simp;refine hK _ ?_;clear hK K)
     refine take_any _ ?_ rfl rfl ?_ (fun K hK=>?_);rotate_left;(intro w0;go_simp;(try rfl));(go_simp;refine hK _ ?_;clear hK K)
     refine take_any _ ?_ rfl rfl ?_ (fun K hK=>?_);rotate_left;(intro w0;go_simp;(try rfl));(go_simp;refine hK _ ?_;clear hK K)
     have RBk:=Hh (fun wx=>RB.out 8 (by decide) wx)
     rw [show ((8:Nat):Int)=8 from rfl] at RBk
     refine plan_cut [50,51,53] (fun vs wx=>∃v23,vs=[v23,.string (bC [c]),.string (bC (bigL n 8))]∧Below w.heap.size w wx) ?_ ?_
     ·refine ask_late _ rfl ?_ ?_
      rotate_left
      ·go_wp2_with fail;refine Seg.mk ?_
       have ka:=Hn wd (.cells #[.int .u8 (c.toNat:Int)] 5)
       have ba:=hbw.alloc (o:=.cells #[.int .u8 (c.toNat:Int)] 5) hbw.size
       have hla:wd.heap.size<(wd.alloc (.cells #[.int .u8 (c.toNat:Int)] 5)).heap.size:=by simp
       generalize wd.alloc (.cells #[.int .u8 (c.toNat:Int)] 5)=wa at ka ba hla ⊢
       have hcv:=CV.out wa _ ka
       refine ask_late _ rfl ?_ ?_
       rotate_left
       ·go_wp2_with fail;refine Seg.mk ?_
        refine ask_late _ rfl trivial ?_;go_wp2_with (go_at_call 94;(with_reducible refine (RBk.out _).mono ?_);rintro e w2 ⟨rfl,hb2⟩);refine Seg.mk ?_
        exact plan_meet [.slice (some ⟨wd.heap.size,0,none⟩) 1 1,.string (bC [c]),.string (bC (bigL n 8))] (by first | exact ⟨_,rfl,ba.trans (hb2.mono ba.size)⟩ | exact ⟨⟨_,rfl⟩,ba.trans (hb2.mono ba.size)⟩) rfl
       ·refine ask_late _ rfl trivial ?_;go_wp2_with (go_at_call 94;(with_reducible refine (RBk.out _).mono ?_);rintro e w2 ⟨rfl,hb2⟩);refine Seg.mk ?_
        have hcv2:=CV.out w2 _ ((hb2.block _ hla).trans ka)
        refine ask_late _ rfl trivial ?_;go_wp2_with fail;refine Seg.mk ?_
        exact plan_meet [.slice (some ⟨wd.heap.size,0,none⟩) 1 1,.string (bC [c]),.string (bC (bigL n 8))] (by first | exact ⟨_,rfl,ba.trans (hb2.mono ba.size)⟩ | exact ⟨⟨_,rfl⟩,ba.trans (hb2.mono ba.size)⟩) rfl
      ·refine ask_late _ rfl trivial ?_;go_wp2_with (go_at_call 94;(with_reducible refine (RBk.out _).mono ?_);rintro e w2 ⟨rfl,hb2⟩);refine Seg.mk ?_
       have b2:=hbw.trans (hb2.mono hbw.size)
       refine ask_late _ rfl trivial ?_;go_wp2_with fail;refine Seg.mk ?_
       have ka:=Hn w2 (.cells #[.int .u8 (c.toNat:Int)] 5)
       have ba:=b2.alloc (o:=.cells #[.int .u8 (c.toNat:Int)] 5) b2.size
       generalize w2.alloc (.cells #[.int .u8 (c.toNat:Int)] 5)=wa at ka ba ⊢
       have hcv:=CV.out wa _ ka
       refine ask_late _ rfl trivial ?_;go_wp2_with fail;refine Seg.mk ?_
       exact plan_meet [.slice (some ⟨w2.heap.size,0,none⟩) 1 1,.string (bC [c]),.string (bC (bigL n 8))] (by first | exact ⟨_,rfl,ba⟩ | exact ⟨⟨_,rfl⟩,ba⟩) rfl
     ·rintro vs w' ⟨v23,rfl,hbl⟩
      simp only [puts,Act.put,List.setIfInBounds_toArray,List.set_cons_zero,List.set_cons_succ]
      have hcat:=CAT.out c 8 (by decide)
      have HBL:=Hh hbl
      clear hbl
      refine ask_late _ rfl trivial ?_;go_wp2_with fail;refine Seg.mk ?_
      refine ask_last _ rfl trivial ?_
      go_wp2
      go_ret
      exact ⟨by rw [HDR.out];rfl,HBL.out⟩
end Go.Proofs.YtdppdonaojdceaaGreatDoor