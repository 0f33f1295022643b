/- The second serialisation as data: heads, the bytes of nodes, and that nothing else has them. No program. -/
import Derived.Test.YtcklddldejejcaaGreatDoorJread
import Derived.Lib.ItoaLen
set_option linter.unusedVariables false
set_option linter.unusedSimpArgs false
namespace Go.Proofs.YtcklddldejejcaaGreatDoor
def bigL (n:Nat):Nat→List UInt8
 | 0=>[]
 | k+1=>UInt8.ofNat (n / 256 ^ k)::bigL n k
theorem bigL_length (n:Nat):∀k,(bigL n k).length=k
 | 0=>rfl
 | k+1=>by rw [bigL,List.length_cons,bigL_length n k]
def bigV (l:List UInt8):Nat:=l.foldl (fun a c=>a * 256+c.toNat) 0
theorem bigV0:∀ (l:List UInt8) (a:Nat),l.foldl (fun a c=>a * 256+c.toNat) a=a * 256 ^ l.length+bigV l
 | [],a=>by simp [bigV]
 | c::t,a=>by
  unfold bigV
  rw [List.foldl_cons,List.foldl_cons,bigV0 t (a * 256+c.toNat),bigV0 t (0 * 256+c.toNat),List.length_cons,Nat.pow_succ,Nat.zero_mul,Nat.zero_add,Nat.add_mul,Nat.mul_assoc,Nat.mul_comm 256 (256 ^ t.length)]
  omega
theorem bigV_cons (c:UInt8) (t:List UInt8):bigV (c::t)=c.toNat * 256 ^ t.length+bigV t:=by
 have:=bigV0 t c.toNat
 unfold bigV at this ⊢
 rw [List.foldl_cons,Nat.zero_mul,Nat.zero_add]
 exact this
theorem bigV_bigL (n:Nat):∀k,bigV (bigL n k)=n % 256 ^ k
 | 0=>by rw [Nat.pow_zero,Nat.mod_one];rfl
 | k+1=>by
  have h:n % (256 ^ k * 256)=n % 256 ^ k+256 ^ k * (n / 256 ^ k % 256):=Nat.mod_mul
  rw [bigL,bigV_cons,bigL_length,bigV_bigL n k,UInt8.toNat_ofNat',show 256 ^ (k+1)=256 ^ k * 256 from Nat.pow_succ ..,h,Nat.mul_comm]
  show 256 ^ k * (n / 256 ^ k % 256)+_=_
  omega
theorem bigL_back {n k:Nat} (h:n<256 ^ k):bigV (bigL n k)=n:=by rw [bigV_bigL,Nat.mod_eq_of_lt h]
theorem bigL_inj {n m k:Nat} (hn:n<256 ^ k) (hm:m<256 ^ k) (h:bigL n k=bigL m k):n=m:=by
 rw [←bigL_back hn,←bigL_back hm,h]
def headK (n:Nat):Nat:=if n<24 then 0 else if n<256 then 1 else if n<65536 then 2 else if n<4294967296 then 4 else 8
def headV (n:Nat):Nat:=if n<24 then n else if n<256 then 24 else if n<65536 then 25 else if n<4294967296 then 26 else 27
def headL (m n:Nat):List UInt8:=UInt8.ofNat (32 * m+headV n)::bigL n (headK n)
theorem headL_length (m n:Nat):(headL m n).length=headK n+1:=by rw [headL,List.length_cons,bigL_length]
theorem headK_le (n:Nat):headK n≤8:=by
 unfold headK
 (repeat' split) <;> omega
theorem headV_lt (n:Nat):headV n<32:=by
 unfold headV
 (repeat' split) <;> omega
theorem headV_K {n m:Nat} (h:headV n=headV m):headK n=headK m∧(headK n=0→n=m):=by
 unfold headV at h
 unfold headK
 by_cases a1:n<24
 ·rw [if_pos a1] at h
  rw [if_pos a1]
  by_cases b1:m<24
  ·rw [if_pos b1] at h ⊢;exact ⟨rfl,fun _=>h⟩
  ·rw [if_neg b1] at h
   exfalso
   revert h
   repeat' split
   all_goals omega
 ·rw [if_neg a1] at h
  rw [if_neg a1]
  by_cases b1:m<24
  ·rw [if_pos b1] at h
   exfalso
   revert h
   repeat' split
   all_goals omega
  ·rw [if_neg b1] at h
   rw [if_neg b1]
   revert h
   repeat' split
   all_goals (intro h;first | (exfalso;omega) | exact ⟨rfl,fun h=>absurd h (by decide)⟩)
theorem headK_fits {n:Nat} (h:n<18446744073709551616):headK n=0∨n<256 ^ headK n:=by
 unfold headK
 repeat' split
 all_goals first | exact .inl rfl | (right;simp only [Nat.reducePow];omega)
theorem headL_inj {m n m' n':Nat} {t t':List UInt8} (hm:m<8) (hm':m'<8) (hn:n<18446744073709551616) (hn':n'<18446744073709551616) (h:headL m n++t=headL m' n'++t'):m=m'∧n=n'∧t=t':=by
 unfold headL at h
 rw [List.cons_append,List.cons_append] at h
 obtain ⟨h1,h2⟩:=List.cons.inj h
 have h1:=congrArg UInt8.toNat h1
 rw [UInt8.toNat_ofNat',UInt8.toNat_ofNat'] at h1
 have v1:=headV_lt n
 have v2:=headV_lt n'
 have hmm:m=m':=by omega
 have hvv:headV n=headV n':=by omega
 obtain ⟨hk,h0⟩:=headV_K hvv
 rw [←hk] at h2
 obtain ⟨e1,e2⟩:=List.append_inj h2 (by rw [bigL_length,bigL_length])
 refine ⟨hmm,?_,e2⟩
 rcases headK_fits hn with h | h
 ·exact h0 h
 ·rcases headK_fits hn' with h' | h'
  ·exact h0 (hk.trans h')
  ·rw [←hk] at h'
   exact bigL_inj h h' e1
def cMaj (x:ND):Nat:=if x.kind=1 then 7 else if x.kind=2 then (if x.num<0 then 1 else 0) else if x.kind=3 then 3 else if x.kind=4 then 4 else if x.kind=5 then 5 else 7
def cCnt (x:ND):Nat:=if x.kind=1 then (if x.bool then 21 else 20) else if x.kind=2 then (if x.num<0 then (-1 - x.num).toNat else x.num.toNat) else if x.kind=3 then x.text.size else if x.kind=4 then x.items.length else if x.kind=5 then x.items.length else 22
def cText (s:ByteArray):List UInt8:=headL 3 s.size++s.data.toList
def writeC:Nat→ND→List UInt8
 | 0,_=>[]
 | d+1,x=>headL (cMaj x) (cCnt x) ++
  (if x.kind=3 then x.text.data.toList
  else if x.kind=4 then x.items.flatMap (writeC d)
  else if x.kind=5 then (List.zipWith (fun s y=>cText s++writeC d y) x.names x.items).flatten
  else [])
end Go.Proofs.YtcklddldejejcaaGreatDoor
namespace Go.Proofs.YtcklddldejejcaaGreatDoor
open Go.Lib
theorem bytes_eta (s:ByteArray):(⟨s.data.toList.toArray⟩:ByteArray)=s:=by cases s;simp
theorem map_back {V:List UInt8→Option (ND × List UInt8)} {W:ND→List UInt8} {t:List UInt8}:∀ (its:List ND) (ns:List ByteArray) (n:Nat) (dn:List ByteArray) (done:List ND),its ≠ []→ns.length=its.length→its.length≤n→done.length+its.length≤256 →
 (∀y,y ∈ its→∀r,okR r→V (W y++r)=some (y,r)) →
 itemsP V true 125 n dn done (sepL (List.zipWith (fun s y=>quoteL s.data.toList++58::W y) ns its)++125::t)=some ((dn++ns,done++its),t)
 | [],_,_,_,_,h,_,_,_,_=>absurd rfl h
 | y::ys,[],_,_,_,_,h,_,_,_=>by simp at h
 | y::ys,s::ss,0,_,_,_,_,h,_,_=>by simp at h
 | y::ys,s::ss,n+1,dn,done,_,hl,hn,hd,hy=>by
  have hv:=hy y (by simp)
  have hq:∀r,nameP true dn (quoteL s.data.toList++58::r)=some (dn++[s],r):=by
   intro r
   have e:quoteL s.data.toList++58::r=34::(s.data.toList.flatMap jEsc++34::58::r):=by unfold quoteL;simp
   rw [e]
   show (match quotedP (s.data.toList.flatMap jEsc++34::58::r) with
    | some (o,58::r')=>some (dn++[(⟨o.toArray⟩:ByteArray)],r')
    | _=>none)=_
   rw [quotedP_back]
   show some (dn++[(⟨s.data.toList.toArray⟩:ByteArray)],r)=_
   rw [bytes_eta]
  have hhead:∀r,¬ (done=[]∧((quoteL s.data.toList++58::W y)++r).head?=some 125):=by
   rintro r ⟨-,h⟩
   have:((quoteL s.data.toList++58::W y)++r).head?=some 34:=rfl
   rw [this] at h
   exact absurd (Option.some.inj h) (by decide)
  unfold itemsP
  cases ys with
  | nil=>
   cases ss with
   | cons _ _=>simp at hl
   | nil=>
    show (if done=[]∧((quoteL s.data.toList++58::W y)++125::t).head?=some 125 then _ else match nameP true dn ((quoteL s.data.toList++58::W y)++125::t) with
     | none=>none
     | some (ns',t1)=>match V t1 with
      | none=>none
      | some (x,t2)=>match t2 with
       | []=>none
       | c::t3=>if c=125 then some ((ns',done++[x]),t3) else if c ≠ 44∨256<done.length+1 then none else itemsP V true 125 n ns' (done++[x]) t3)=_
    rw [if_neg (hhead _),List.append_assoc,List.cons_append,hq]
    show (match V (W y++125::t) with | none=>none | some (x,t2)=>_)=_
    rw [hv _ (okR_cons (by decide))]
    rfl
  | cons z zs=>
   cases ss with
   | nil=>simp at hl
   | cons s2 ss=>
    rw [List.zipWith_cons_cons,sepL_cons (by simp),List.append_assoc,if_neg (hhead _),List.append_assoc,List.cons_append,hq]
    have ih:=map_back (V:=V) (W:=W) (t:=t) (z::zs) (s2::ss) n (dn++[s]) (done++[y]) (by simp) (by simpa using hl) (by simpa using hn) (by simp at hd ⊢;omega) (fun w hw=>hy w (by simp at hw ⊢;exact .inr hw))
    show (match V (W y++(44::sepL (List.zipWith (fun s y=>quoteL s.data.toList++58::W y) (s2::ss) (z::zs))++125::t)) with
     | none=>none
     | some (x,t2)=>match t2 with
      | []=>none
      | c::t3=>if c=125 then some ((dn++[s],done++[x]),t3) else if c ≠ 44∨256<done.length+1 then none else itemsP V true 125 n (dn++[s]) (done++[x]) t3)=_
    rw [List.cons_append,hv _ (okR_cons (by decide))]
    show (if (44:UInt8)=125 then _ else if (44:UInt8) ≠ 44∨256<done.length+1 then none else itemsP V true 125 n (dn++[s]) (done++[y]) (sepL (List.zipWith (fun s y=>quoteL s.data.toList++58::W y) (s2::ss) (z::zs))++125::t))=_
    rw [if_neg (by decide),if_neg (by simp at hd ⊢;omega),ih]
    simp
theorem sepL_len:∀ (l:List (List UInt8)),(∀a,a ∈ l→1≤a.length)→l.length≤(sepL l).length
 | [],_=>Lr _
 | [a],h=>h a (by simp)
 | a::b::t,h=>by
  have:=sepL_len (b::t) (fun c hc=>h c (by simp at hc ⊢;exact .inr hc))
  show _≤(a++44::sepL (b::t)).length
  rw [Lg,List.length_cons]
  simp only [List.length_cons] at this ⊢
  omega
theorem validN_parts {d:Nat} {x:ND} (h:validN (d+1) x=true):(∀y,y ∈ x.items→validN d y=true)∧x.items.length≤256∧textOk x.text=true∧∀s,s ∈ x.names→textOk s=true:=by
 rw [validN_succ,Bool.and_eq_true,List.all_eq_true] at h
 obtain ⟨hf,hi⟩:=h
 unfold flatOk at hf
 simp only [Bool.and_eq_true,Bool.or_eq_true,decide_eq_true_eq,List.all_eq_true] at hf
 obtain ⟨⟨⟨⟨⟨-,h1⟩,h2⟩,-⟩,h3⟩,-⟩:=hf
 exact ⟨hi,h2,h1,h3⟩
theorem numsB_parts {d:Nat} {x:ND} (h:numsB (d+1) x=true):wideI x.num=true∧∀y,y ∈ x.items→numsB d y=true:=by
 rw [numsB_succ,Bool.and_eq_true,List.all_eq_true] at h
 exact h
theorem writeN_pos {d:Nat} {x:ND} (h:validN d x=true):1≤(writeN d x).length:=by
 cases d with
 | zero=>cases h
 | succ d=>
  obtain ⟨c,r,e,-⟩:=writeN_head h
  rw [e];simp
theorem writeN_4 (d:Nat) (its:List ND):writeN (d+1) (.mk 4 false 0 ⟨#[]⟩ [] its)=91::(sepL (its.map (writeN d))++[93]):=rfl
theorem writeN_5 (d:Nat) (ns:List ByteArray) (its:List ND):writeN (d+1) (.mk 5 false 0 ⟨#[]⟩ ns its)=123::(sepL (List.zipWith (fun s y=>quoteL s.data.toList++58::writeN d y) ns its)++[125]):=rfl
theorem zip_pos (W:ND→List UInt8):∀ (ns:List ByteArray) (its:List ND),∀a,a ∈ List.zipWith (fun s y=>quoteL s.data.toList++58::W y) ns its→1≤a.length
 | [],_,a,h=>by simp at h
 | _::_,[],a,h=>by simp at h
 | s::ss,y::ys,a,h=>by
  rw [List.zipWith_cons_cons] at h
  rcases List.mem_cons.1 h with rfl | h
  ·rw [Lg,List.length_cons];omega
  ·exact zip_pos W ss ys a h
theorem valueP_back:∀ (d:Nat) (x:ND) (t:List UInt8),validN d x=true→numsB d x=true→okR t→valueP d (writeN d x++t)=some (x,t)
 | 0,_,_,h,_,_=>by cases h
 | d+1,x,t,h,hn,ht=>by
  obtain ⟨hi,hl,-,-⟩:=validN_parts h
  obtain ⟨hw,hni⟩:=numsB_parts hn
  rcases kinds h with e | e | e | e | e | ⟨e,hlen⟩
  ·rw [e];rfl
  ·rw [e]
   cases x.bool <;> rfl
  ·rw [e]
   show valueP (d+1) (itoa x.num++t)=_
   obtain ⟨c,r,h1,h2⟩:=itoa_head x.num
   have hne:∀v:UInt8,v ≠ 45→isDig v=false→c ≠ v:=by
    intro v hv hd e;subst e
    rcases h2 with h2 | h2
    ·exact hv h2
    ·rw [hd] at h2;cases h2
   have hb:=numberP_back hw ht
   rw [h1] at hb ⊢
   rw [List.cons_append] at hb ⊢
   rw [valueP_other d c _ (hne _ (by decide) (by decide)) (hne _ (by decide) (by decide)) (hne _ (by decide) (by decide)),if_neg (hne _ (by decide) (by decide)),if_neg (hne _ (by decide) (by decide)),if_neg (hne _ (by decide) (by decide))]
   exact hb
  ·rw [e]
   show valueP (d+1) (34::((x.text.data.toList.flatMap jEsc++[34])++t))=_
   rw [valueP_other d 34 _ (by decide) (by decide) (by decide),if_pos rfl,List.append_assoc]
   show (quotedP (x.text.data.toList.flatMap jEsc++34::t)).map _=_
   rw [quotedP_back]
   show some (ND.mk 3 false 0 ⟨x.text.data.toList.toArray⟩ [] [],t)=_
   rw [bytes_eta]
  ·rw [e,writeN_4]
   show valueP (d+1) (91::((sepL (x.items.map (writeN d))++[93])++t))=_
   rw [valueP_other d 91 _ (by decide) (by decide) (by decide),if_neg (by decide),if_pos rfl,List.append_assoc]
   show (itemsP (valueP d) false 93 ((sepL (x.items.map (writeN d))++93::t).length+1) [] [] (sepL (x.items.map (writeN d))++93::t)).map _=_
   by_cases h0:x.items=[]
   ·rw [h0];rfl
   ·have hlen2:x.items.length≤(sepL (x.items.map (writeN d))++93::t).length+1:=by
     have:=sepL_len (x.items.map (writeN d)) (fun a ha=>by obtain ⟨y,hy,rfl⟩:=List.mem_map.1 ha;exact writeN_pos (hi y hy))
     rw [List.length_map] at this
     rw [Lg];omega
    rw [list_back x.items _ [] h0 hlen2 (by simpa using hl) (fun y hy=>⟨fun r hr=>valueP_back d y r (hi y hy) (hni y hy) hr,by
     cases d with
     | zero=>exact absurd (hi y hy) (by intro h;cases h)
     | succ d=>
      obtain ⟨c,r,e,h1,_⟩:=writeN_head (hi y hy)
      exact ⟨c,r,e,h1⟩⟩)]
    rfl
  ·rw [e,writeN_5]
   show valueP (d+1) (123::((sepL (List.zipWith (fun s y=>quoteL s.data.toList++58::writeN d y) x.names x.items)++[125])++t))=_
   rw [valueP_other d 123 _ (by decide) (by decide) (by decide),if_neg (by decide),if_neg (by decide),if_pos rfl,List.append_assoc]
   show (itemsP (valueP d) true 125 ((sepL (List.zipWith (fun s y=>quoteL s.data.toList++58::writeN d y) x.names x.items)++125::t).length+1) [] [] (sepL (List.zipWith (fun s y=>quoteL s.data.toList++58::writeN d y) x.names x.items)++125::t)).map _=_
   by_cases h0:x.items=[]
   ·have hn0:x.names=[]:=List.length_eq_zero_iff.1 (by rw [hlen,h0];rfl)
    rw [h0,hn0];rfl
   ·have hlen2:x.items.length≤(sepL (List.zipWith (fun s y=>quoteL s.data.toList++58::writeN d y) x.names x.items)++125::t).length+1:=by
     have:=sepL_len _ (zip_pos (writeN d) x.names x.items)
     rw [List.length_zipWith,hlen,Nat.min_self] at this
     rw [Lg];omega
    rw [map_back x.items x.names _ [] [] h0 hlen hlen2 (by simpa using hl) (fun y hy r hr=>valueP_back d y r (hi y hy) (hni y hy) hr)]
    rfl
theorem okR_nil:okR []:=fun c e=>by cases e
theorem writeN_inj {d:Nat} {x y:ND} (hx:validW d x=true) (hy:validW d y=true) (h:writeN d x=writeN d y):x=y:=by
 have h1:=valueP_back d x [] (validW_valid hx) (validW_nums hx) okR_nil
 have h2:=valueP_back d y [] (validW_valid hy) (validW_nums hy) okR_nil
 rw [h,h2] at h1
 exact (Prod.mk.inj (Option.some.inj h1)).1.symm
theorem jEsc_len (c:UInt8):(jEsc c).length≤6:=by
 unfold jEsc
 repeat' split
 all_goals simp
theorem flatEsc_len:∀l:List UInt8,(l.flatMap jEsc).length≤6 * l.length
 | []=>Lr _
 | c::r=>by
  have h1:=jEsc_len c
  have h2:=flatEsc_len r
  rw [List.flatMap_cons,Lg,List.length_cons]
  omega
theorem quoteL_len (l:List UInt8):(quoteL l).length≤6 * l.length+2:=by
 unfold quoteL
 rw [List.length_cons,Lg,List.length_singleton]
 have:=flatEsc_len l
 omega
theorem textOk_size {s:ByteArray} (h:textOk s=true):s.data.toList.length≤65536:=by
 unfold textOk at h
 simp only [Bool.and_eq_true,decide_eq_true_eq] at h
 have:s.data.toList.length=s.size:=by rw [Array.length_toList];rfl
 omega
end Go.Proofs.YtcklddldejejcaaGreatDoor
namespace Go.Proofs.YtcklddldejejcaaGreatDoor
theorem cMaj_lt (x:ND):cMaj x<8:=by
 unfold cMaj
 (repeat' split) <;> omega
theorem cCnt_lt {d:Nat} {x:ND} (h:validN (d+1) x=true) (hn:numsB (d+1) x=true):cCnt x<18446744073709551616:=by
 obtain ⟨hi,hl,htx,hns⟩:=validN_parts h
 obtain ⟨hw,hni⟩:=numsB_parts hn
 have h1:=textOk_size htx
 have h2:x.text.data.toList.length=x.text.size:=by rw [Array.length_toList];rfl
 unfold wideI at hw
 rw [Bool.and_eq_true,decide_eq_true_eq,decide_eq_true_eq] at hw
 unfold cCnt
 (repeat' split) <;> omega
def bodyC (d:Nat) (x:ND):List UInt8:=
 if x.kind=3 then x.text.data.toList
 else if x.kind=4 then x.items.flatMap (writeC d)
 else if x.kind=5 then (List.zipWith (fun s y=>cText s++writeC d y) x.names x.items).flatten
 else []
theorem writeC_succ (d:Nat) (x:ND):writeC (d+1) x=headL (cMaj x) (cCnt x)++bodyC d x:=rfl
theorem data_inj {a b:ByteArray} (h:a.data.toList=b.data.toList):a=b:=ByteArray.ext (Array.toList_inj.1 h)
theorem cText_inj {a b:ByteArray} {t t':List UInt8} (ha:a.size≤65536) (hb:b.size≤65536) (h:cText a++t=cText b++t'):a=b∧t=t':=by
 unfold cText at h
 rw [List.append_assoc,List.append_assoc] at h
 obtain ⟨-,h1,h2⟩:=headL_inj (by decide) (by decide) (by omega) (by omega) h
 obtain ⟨h3,h4⟩:=List.append_inj h2 (by rw [Array.length_toList,Array.length_toList];exact h1)
 exact ⟨data_inj h3,h4⟩
theorem flat_inj {W:ND→List UInt8}:∀ (xs ys:List ND) (t t':List UInt8),xs.length=ys.length→(∀x y t t',x ∈ xs→y ∈ ys→W x++t=W y++t'→x=y∧t=t')→xs.flatMap W++t=ys.flatMap W++t'→xs=ys∧t=t'
 | [],[],t,t',_,_,h=>⟨rfl,h⟩
 | [],_::_,_,_,h,_,_=>by simp at h
 | _::_,[],_,_,h,_,_=>by simp at h
 | x::xs,y::ys,t,t',hl,hw,h=>by
  rw [List.flatMap_cons,List.flatMap_cons,List.append_assoc,List.append_assoc] at h
  obtain ⟨rfl,h2⟩:=hw x y _ _ (by simp) (by simp) h
  obtain ⟨rfl,h3⟩:=flat_inj xs ys t t' (by simpa using hl) (fun a b u u' ha hb=>hw a b u u' (by simp [ha]) (by simp [hb])) h2
  exact ⟨rfl,h3⟩
theorem zipC_inj {W:ND→List UInt8}:∀ (ns ms:List ByteArray) (xs ys:List ND) (t t':List UInt8),ns.length=xs.length→ms.length=ys.length→xs.length=ys.length→(∀s,s ∈ ns→s.size≤65536)→(∀s,s ∈ ms→s.size≤65536)→(∀x y t t',x ∈ xs→y ∈ ys→W x++t=W y++t'→x=y∧t=t') →
 (List.zipWith (fun s y=>cText s++W y) ns xs).flatten++t=(List.zipWith (fun s y=>cText s++W y) ms ys).flatten++t'→ns=ms∧xs=ys∧t=t'
 | [],[],[],[],t,t',_,_,_,_,_,_,h=>⟨rfl,rfl,h⟩
 | n::ns,m::ms,x::xs,y::ys,t,t',h1,h2,h3,hn,hm,hw,h=>by
  rw [List.zipWith_cons_cons,List.zipWith_cons_cons,List.flatten_cons,List.flatten_cons,List.append_assoc,List.append_assoc,List.append_assoc,List.append_assoc] at h
  obtain ⟨rfl,h4⟩:=cText_inj (hn n (by simp)) (hm m (by simp)) h
  obtain ⟨rfl,h5⟩:=hw x y _ _ (by simp) (by simp) h4
  obtain ⟨rfl,rfl,h6⟩:=zipC_inj ns ms xs ys t t' (by simpa using h1) (by simpa using h2) (by simpa using h3) (fun s hs=>hn s (by simp [hs])) (fun s hs=>hm s (by simp [hs])) (fun a b u u' ha hb=>hw a b u u' (by simp [ha]) (by simp [hb])) h5
  exact ⟨rfl,rfl,h6⟩
 | [],_,_::_,_,_,_,h,_,_,_,_,_,_=>by simp at h
 | _::_,_,[],_,_,_,h,_,_,_,_,_,_=>by simp at h
 | _,[],_,_::_,_,_,_,h,_,_,_,_,_=>by simp at h
 | _,_::_,_,[],_,_,_,h,_,_,_,_,_=>by simp at h
 | [],_::_,[],_::_,_,_,_,_,h,_,_,_,_=>by simp at h
theorem textOk_le {s:ByteArray} (h:textOk s=true):s.size≤65536:=by
 have h1:=textOk_size h
 have h2:s.data.toList.length=s.size:=by rw [Array.length_toList];rfl
 omega
theorem writeC_app_inj:∀ (d:Nat) (x y:ND) (t t':List UInt8),validN d x=true→numsB d x=true→validN d y=true→numsB d y=true→writeC d x++t=writeC d y++t'→x=y∧t=t'
 | 0,_,_,_,_,h,_,_,_,_=>by cases h
 | d+1,x,y,t,t',hx,nx,hy,ny,h=>by
  rw [writeC_succ,writeC_succ,List.append_assoc,List.append_assoc] at h
  obtain ⟨hm,hc,hr⟩:=headL_inj (cMaj_lt x) (cMaj_lt y) (cCnt_lt hx nx) (cCnt_lt hy ny) h
  obtain ⟨ix,lx,tx,sx⟩:=validN_parts hx
  obtain ⟨iy,ly,ty,sy⟩:=validN_parts hy
  obtain ⟨wx,mx⟩:=numsB_parts nx
  obtain ⟨wy,my⟩:=numsB_parts ny
  have ih:∀a b u u',a ∈ x.items→b ∈ y.items→writeC d a++u=writeC d b++u'→a=b∧u=u':=fun a b u u' ha hb=>writeC_app_inj d a b u u' (ix a ha) (mx a ha) (iy b hb) (my b hb)
  have kx:=kinds hx
  have ky:=kinds hy
  obtain ⟨k,b,n,tt,ns,its⟩:=x
  obtain ⟨k',b',n',tt',ns',its'⟩:=y
  unfold nd0 at kx ky
  simp only [ND.mk.injEq,ND.kind,ND.bool,ND.num,ND.text,ND.names,ND.items] at *
  unfold cMaj at hm
  unfold cCnt at hc
  unfold bodyC at hr
  simp only [ND.kind,ND.bool,ND.num,ND.text,ND.names,ND.items] at hm hc hr
  rcases kx with ⟨rfl,rfl,rfl,rfl,rfl,rfl⟩ | ⟨rfl,-,rfl,rfl,rfl,rfl⟩ | ⟨rfl,rfl,-,rfl,rfl,rfl⟩ | ⟨rfl,rfl,rfl,-,rfl,rfl⟩ | ⟨rfl,rfl,rfl,rfl,rfl,-⟩ | ⟨⟨rfl,rfl,rfl,rfl,-,-⟩,hlx⟩ <;>
  rcases ky with ⟨rfl,rfl,rfl,rfl,rfl,rfl⟩ | ⟨rfl,-,rfl,rfl,rfl,rfl⟩ | ⟨rfl,rfl,-,rfl,rfl,rfl⟩ | ⟨rfl,rfl,rfl,-,rfl,rfl⟩ | ⟨rfl,rfl,rfl,rfl,rfl,-⟩ | ⟨⟨rfl,rfl,rfl,rfl,-,-⟩,hly⟩ <;>
  simp at hm hc hr <;> first
   | (exfalso;by_cases hq:n'<0 <;> simp [hq] at hm;done)
   | (exfalso;by_cases hq:n<0 <;> simp [hq] at hm;done)
   | (exfalso;revert hc;cases b' <;> simp;done)
   | (exfalso;revert hc;cases b <;> simp;done)
   | (exact ⟨⟨rfl,rfl,rfl,rfl,rfl,rfl⟩,hr⟩)
   | (refine ⟨⟨rfl,?_,rfl,rfl,rfl,rfl⟩,hr⟩;revert hc;cases b <;> cases b' <;> simp)
   | (refine ⟨⟨rfl,rfl,?_,rfl,rfl,rfl⟩,hr⟩;by_cases hq:n<0 <;> by_cases hq':n'<0 <;> simp [hq,hq'] at hm hc <;> omega)
   | (obtain ⟨h3,h4⟩:=List.append_inj hr (by rw [Array.length_toList,Array.length_toList];exact hc);exact ⟨⟨rfl,rfl,rfl,data_inj h3,rfl,rfl⟩,h4⟩)
   | (obtain ⟨h3,h4⟩:=flat_inj its its' t t' hc ih hr;exact ⟨⟨rfl,rfl,rfl,rfl,rfl,h3⟩,h4⟩)
   | (obtain ⟨h3,h4,h5⟩:=zipC_inj ns ns' its its' t t' hlx hly hc (fun s hs=>textOk_le (sx s hs)) (fun s hs=>textOk_le (sy s hs)) ih hr;exact ⟨⟨rfl,rfl,rfl,rfl,h3,h4⟩,h5⟩)
theorem writeC_inj {d:Nat} {x y:ND} (hx:validW d x=true) (hy:validW d y=true) (h:writeC d x=writeC d y):x=y:=
 (writeC_app_inj d x y [] [] (validW_valid hx) (validW_nums hx) (validW_valid hy) (validW_nums hy) (by rw [h])).1
theorem headL_cost {m:Nat} (n:Nat):(headL m n).length≤9:=by rw [headL_length];have:=headK_le n;omega
theorem cText_cost (s:ByteArray):(cText s).length≤6 * s.size+8:=by
 have h2:s.data.toList.length=s.size:=by rw [Array.length_toList];rfl
 unfold cText
 rw [Lg,headL_length,h2]
 unfold headK
 (repeat' split) <;> omega
theorem flatC_sum {W:ND→List UInt8} {c:ND→Nat}:∀ (its:List ND),(∀y,y ∈ its→(W y).length≤c y)→(its.flatMap W).length≤(its.map fun y=>c y+1).sum
 | [],_=>Lr _
 | y::ys,h=>by
  have ih:=flatC_sum ys (fun z hz=>h z (by simp [hz]))
  have h3:=h y (by simp)
  rw [List.flatMap_cons,Lg,List.map_cons,List.sum_cons]
  omega
theorem zipC_sum {W:ND→List UInt8} {c:ND→Nat}:∀ (ns:List ByteArray) (its:List ND),(∀y,y ∈ its→(W y).length≤c y)→(List.zipWith (fun s y=>cText s++W y) ns its).flatten.length≤(ns.map fun s=>6 * s.size+8).sum+(its.map fun y=>c y+1).sum
 | [],_,_=>by simp
 | _::_,[],_=>by simp
 | s::ss,y::ys,h=>by
  have ih:=zipC_sum ss ys (fun z hz=>h z (by simp [hz]))
  have h1:=cText_cost s
  have h3:=h y (by simp)
  rw [List.zipWith_cons_cons,List.flatten_cons,Lg,Lg,List.map_cons,List.sum_cons,List.map_cons,List.sum_cons]
  omega
theorem writeC_cost:∀ (d:Nat) (x:ND),validN d x=true→(writeC d x).length≤costN d x
 | 0,_,h=>by cases h
 | d+1,x,h=>by
  obtain ⟨hi,hl,htx,hns⟩:=validN_parts h
  have ih:∀y,y ∈ x.items→(writeC d y).length≤costN d y:=fun y hy=>writeC_cost d y (hi y hy)
  have hts:x.text.data.toList.length=x.text.size:=by rw [Array.length_toList];rfl
  have h9:=headL_cost (m:=cMaj x) (cCnt x)
  have h1:=flatC_sum x.items ih
  have h2:=zipC_sum (W:=writeC d) x.names x.items ih
  rw [costN_succ,writeC_succ,Lg]
  unfold bodyC
  split
  ·omega
  ·split
   ·omega
   ·split
    ·omega
    ·simp;omega
end Go.Proofs.YtcklddldejejcaaGreatDoor