/- The first serialisation as data: quoted texts, texts of nodes, and a reader of them. No program. -/
import Derived.Test.YtcklddldejejcaaGreatDoorNnam
import Derived.Lib.ItoaNum
set_option linter.unusedVariables false
set_option linter.unusedSimpArgs false
namespace Go.Proofs.YtcklddldejejcaaGreatDoor
open Go.Lib
def hexD (v:UInt8):UInt8:=if v<10 then 48+v else 87+v
def jEsc (c:UInt8):List UInt8:=
 if c=34∨c=92 then [92,c]
 else if c=8 then [92,98] else if c=9 then [92,116] else if c=10 then [92,110] else if c=12 then [92,102] else if c=13 then [92,114]
 else if c<32 then [92,117,48,48,hexD (c / 16),hexD (c % 16)] else [c]
def quoteL (l:List UInt8):List UInt8:=34::(l.flatMap jEsc++[34])
def hexV (c:UInt8):Option UInt8:=if 48≤c∧c≤57 then some (c - 48) else if 97≤c∧c≤102 then some (c - 87) else none
def ctlV (c:UInt8):Option UInt8:=if c=34∨c=92 then some c else if c=98 then some 8 else if c=116 then some 9 else if c=110 then some 10 else if c=102 then some 12 else if c=114 then some 13 else none
def escP:List UInt8→Option (UInt8 × List UInt8)
 | 117::48::48::a::b::r=>match hexV a,hexV b with
  | some x,some y=>some (16 * x+y,r)
  | _,_=>none
 | c::r=>(ctlV c).map fun d=>(d,r)
 | []=>none
def qStep:List UInt8→Option (Option UInt8 × List UInt8)
 | []=>none
 | c::r=>if c=34 then some (none,r) else if c=92 then (escP r).map fun x=>(some x.1,x.2) else some (some c,r)
theorem qStep_cons (c:UInt8) (r:List UInt8):qStep (c::r)=if c=34 then some (none,r) else if c=92 then (escP r).map fun x=>(some x.1,x.2) else some (some c,r):=rfl
theorem hex_back:∀c:UInt8,c<32→hexV (hexD (c / 16))=some (c / 16)∧hexV (hexD (c % 16))=some (c % 16)∧16 * (c / 16)+c % 16=c:=by
 have:∀n:Fin 256,(UInt8.ofNat n.1<32→hexV (hexD (UInt8.ofNat n.1 / 16))=some (UInt8.ofNat n.1 / 16)∧hexV (hexD (UInt8.ofNat n.1 % 16))=some (UInt8.ofNat n.1 % 16)∧16 * (UInt8.ofNat n.1 / 16)+UInt8.ofNat n.1 % 16=UInt8.ofNat n.1):=by decide +kernel
 intro c
 have h:=this ⟨c.toNat,c.toNat_lt⟩
 rwa [show UInt8.ofNat c.toNat=c from UInt8.ofNat_toNat] at h
theorem qStep_esc (c:UInt8) (t:List UInt8):qStep (jEsc c++t)=some (some c,t):=by
 unfold jEsc
 split
 ·rename_i h
  rcases h with rfl | rfl <;> rfl
 ·rename_i h0
  split
  ·rename_i h;subst h;rfl
  ·split
   ·rename_i h;subst h;rfl
   ·split
    ·rename_i h;subst h;rfl
    ·split
     ·rename_i h;subst h;rfl
     ·split
      ·rename_i h;subst h;rfl
      ·split
       ·rename_i h
        obtain ⟨h1,h2,h3⟩:=hex_back c h
        have he:escP (117::48::48::hexD (c / 16)::hexD (c % 16)::t)=some (c,t):=by
         show (match hexV (hexD (c / 16)),hexV (hexD (c % 16)) with
          | some x,some y=>some (16 * x+y,t)
          | _,_=>none)=_
         rw [h1,h2]
         show some (16 * (c / 16)+c % 16,t)=_
         rw [h3]
        show (escP (117::48::48::hexD (c / 16)::hexD (c % 16)::t)).map _=_
        rw [he];rfl
       ·rename_i h
        show qStep (c::t)=_
        rw [qStep_cons,if_neg (fun e=>h0 (.inl e)),if_neg (fun e=>h0 (.inr e))]
theorem escP_suffix {l r:List UInt8} {c:UInt8} (h:escP l=some (c,r)):r <:+ l∧r.length<l.length:=by
 unfold escP at h
 split at h
 ·split at h
  ·cases h
   exact ⟨⟨_,List.append_assoc [117,48,48] [_,_] _⟩,by simp;omega⟩
  ·cases h
 ·rename_i c' r' _
  cases hc:ctlV c' with
  | none=>rw [hc] at h;cases h
  | some d=>rw [hc] at h;cases h;exact ⟨List.suffix_cons _ _,by simp⟩
 ·cases h
theorem qStep_suffix {l r:List UInt8} {o:Option UInt8} (h:qStep l=some (o,r)):r <:+ l∧r.length<l.length:=by
 cases l with
 | nil=>cases h
 | cons c t=>
  rw [qStep_cons] at h
  by_cases h1:c=34
  ·rw [if_pos h1] at h;cases h;exact ⟨List.suffix_cons _ _,by simp⟩
  ·rw [if_neg h1] at h
   by_cases h2:c=92
   ·rw [if_pos h2] at h
    cases he:escP t with
    | none=>rw [he] at h;cases h
    | some x=>
     rw [he] at h
     cases h
     have:=escP_suffix (c:=x.1) (r:=x.2) he
     exact ⟨this.1.trans (List.suffix_cons _ _),by simp;omega⟩
   ·rw [if_neg h2] at h;cases h;exact ⟨List.suffix_cons _ _,by simp⟩
def quotedF:Nat→List UInt8→Option (List UInt8 × List UInt8)
 | 0,_=>none
 | n+1,l=>match qStep l with
  | none=>none
  | some (none,r)=>some ([],r)
  | some (some c,r)=>(quotedF n r).map fun x=>(c::x.1,x.2)
theorem quotedF_more:∀ (n m:Nat) (l:List UInt8),l.length<n→l.length<m→quotedF n l=quotedF m l
 | 0,_,_,h,_=>by omega
 | _,0,_,_,h=>by omega
 | n+1,m+1,l,hn,hm=>by
  unfold quotedF
  cases h:qStep l with
  | none=>rfl
  | some x=>
   obtain ⟨o,r⟩:=x
   cases o with
   | none=>rfl
   | some c=>
    have:=(qStep_suffix h).2
    show (quotedF n r).map _=(quotedF m r).map _
    rw [quotedF_more n m r (by omega) (by omega)]
def quotedP (l:List UInt8):Option (List UInt8 × List UInt8):=quotedF (l.length+1) l
theorem quotedP_eq (l:List UInt8):quotedP l=match qStep l with
 | none=>none
 | some (none,r)=>some ([],r)
 | some (some c,r)=>(quotedP r).map fun x=>(c::x.1,x.2):=by
 unfold quotedP
 rw [quotedF]
 cases h:qStep l with
 | none=>rfl
 | some x=>
  obtain ⟨o,r⟩:=x
  cases o with
  | none=>rfl
  | some c=>
   have:=(qStep_suffix h).2
   show (quotedF l.length r).map _=(quotedF (r.length+1) r).map _
   rw [quotedF_more l.length (r.length+1) r (by omega) (by omega)]
theorem quotedP_back:∀ (l t:List UInt8),quotedP (l.flatMap jEsc++34::t)=some (l,t)
 | [],t=>by rw [quotedP_eq];rfl
 | c::r,t=>by
  rw [List.flatMap_cons,List.append_assoc,quotedP_eq,qStep_esc]
  show (quotedP (r.flatMap jEsc++34::t)).map _=_
  rw [quotedP_back r t];rfl
def sepL:List (List UInt8)→List UInt8
 | []=>[]
 | [a]=>a
 | a::b::t=>a++44::sepL (b::t)
theorem sepL_snoc:∀ (l:List (List UInt8)) (a:List UInt8),l ≠ []→sepL (l++[a])=sepL l++44::a
 | [],_,h=>absurd rfl h
 | [b],a,_=>rfl
 | b::c::t,a,_=>by
  show b++44::sepL ((c::t)++[a])=(b++44::sepL (c::t))++44::a
  rw [sepL_snoc (c::t) a (by simp)];simp
def writeN:Nat→ND→List UInt8
 | 0,_=>[]
 | d+1,x=>
  if x.kind=1 then (if x.bool then [116,114,117,101] else [102,97,108,115,101])
  else if x.kind=2 then itoa x.num
  else if x.kind=3 then quoteL x.text.data.toList
  else if x.kind=4 then 91::(sepL (x.items.map (writeN d))++[93])
  else if x.kind=5 then 123::(sepL (List.zipWith (fun s y=>quoteL s.data.toList++58::writeN d y) x.names x.items)++[125])
  else [110,117,108,108]
theorem writeN_same:∀ {e d:Nat} {x:ND},e≤d→validN e x=true→writeN d x=writeN e x
 | 0,_,_,_,h=>by cases h
 | e+1,0,_,h,_=>by omega
 | e+1,d+1,x,hd,h=>by
  rw [validN_succ,Bool.and_eq_true,List.all_eq_true] at h
  have hm:x.items.map (writeN d)=x.items.map (writeN e):=List.map_congr_left fun y hy=>writeN_same (by omega) (h.2 y hy)
  have hz:List.zipWith (fun s y=>quoteL s.data.toList++58::writeN d y) x.names x.items=List.zipWith (fun s y=>quoteL s.data.toList++58::writeN e y) x.names x.items:=by
   have:∀ (ns:List ByteArray) (its:List ND),(∀y,y ∈ its→validN e y=true)→List.zipWith (fun s y=>quoteL s.data.toList++58::writeN d y) ns its=List.zipWith (fun s y=>quoteL s.data.toList++58::writeN e y) ns its:=by
    intro ns
    induction ns with
    | nil=>intro its _;rfl
    | cons s t ih=>
     intro its hi
     cases its with
     | nil=>rfl
     | cons y u=>
      rw [List.zipWith_cons_cons,List.zipWith_cons_cons,ih u (fun z hz=>hi z (by simp [hz])),writeN_same (by omega) (hi y (by simp))]
   exact this _ _ h.2
  unfold writeN
  rw [hm,hz]
def isDig (c:UInt8):Bool:=decide (48≤c) && decide (c≤57)
def decVal (l:List UInt8):Nat:=l.foldl (fun a c=>a * 10+(c.toNat - 48)) 0
theorem decVal_snoc (l:List UInt8) (c:UInt8):decVal (l++[c])=decVal l * 10+(c.toNat - 48):=by unfold decVal;rw [List.foldl_append];rfl
def digsP (neg:Bool) (t:List UInt8):Option (ND × List UInt8):=
 if (t.takeWhile isDig).length=0∨19<(t.takeWhile isDig).length then none
 else if (neg=false∧9223372036854775807<decVal (t.takeWhile isDig))∨9223372036854775808<decVal (t.takeWhile isDig) then none
 else some (.mk 2 false (if neg then -(decVal (t.takeWhile isDig):Int) else (decVal (t.takeWhile isDig):Int)) ⟨#[]⟩ [] [],t.dropWhile isDig)
def numberP (t:List UInt8):Option (ND × List UInt8):=if t.head?=some 45 then digsP true t.tail else digsP false t
theorem dig_ok:∀v:Nat,v<10→isDig (UInt8.ofNat (48+v))=true∧(UInt8.ofNat (48+v)).toNat - 48=v:=by
 have:∀v:Fin 10,isDig (UInt8.ofNat (48+v.1))=true∧(UInt8.ofNat (48+v.1)).toNat - 48=v.1:=by decide +kernel
 exact fun v hv=>this ⟨v,hv⟩
theorem decDigits_digs:∀ (n u:Nat),u≤n→(∀c,c ∈ decDigits u→isDig c=true)∧decVal (decDigits u)=u
 | n,u,hn=>by
  by_cases h:u<10
  ·rw [decDigits_one h]
   have:=dig_ok u h
   refine ⟨fun c hc=>by rw [List.mem_singleton.1 hc];exact this.1,?_⟩
   show 0 * 10+((UInt8.ofNat (48+u)).toNat - 48)=u
   rw [this.2];omega
  ·rw [decDigits,dif_neg h]
   cases n with
   | zero=>omega
   | succ n=>
    have ih:=decDigits_digs n (u / 10) (by omega)
    have:=dig_ok (u % 10) (by omega)
    refine ⟨fun c hc=>?_,?_⟩
    ·rcases List.mem_append.1 hc with hc | hc
     ·exact ih.1 c hc
     ·rw [List.mem_singleton.1 hc];exact this.1
    ·rw [decVal_snoc,ih.2,this.2];omega
theorem nDigits_le:∀ (k u:Nat),u<10 ^ (k+1)→nDigits u≤k+1
 | 0,u,h=>by rw [nDigits_small (by simpa using h)];omega
 | k+1,u,h=>by
  by_cases h1:u<10
  ·rw [nDigits_small h1];omega
  ·rw [nDigits_big h1]
   have:=nDigits_le k (u / 10) (by rw [Nat.pow_succ] at h;omega)
   omega
def okR (t:List UInt8):Prop:=∀c,t.head?=some c→isDig c=false
theorem takeWhile_digs {l t:List UInt8} (hl:∀c,c ∈ l→isDig c=true) (ht:okR t):(l++t).takeWhile isDig=l∧(l++t).dropWhile isDig=t:=by
 have h:t.takeWhile isDig=[]∧t.dropWhile isDig=t:=by
  cases t with
  | nil=>exact ⟨rfl,rfl⟩
  | cons c r=>
   have:=ht c rfl
   rw [List.takeWhile_cons,List.dropWhile_cons,this]
   exact ⟨rfl,rfl⟩
 rw [List.takeWhile_append_of_pos hl,List.dropWhile_append_of_pos hl,h.1,h.2,List.append_nil]
 exact ⟨rfl,rfl⟩
theorem digsP_back {u:Nat} {neg:Bool} {t:List UInt8} (hu:u≤9223372036854775808) (hn:neg=false→u≤9223372036854775807) (ht:okR t):digsP neg (decDigits u++t)=some (.mk 2 false (if neg then -(u:Int) else (u:Int)) ⟨#[]⟩ [] [],t):=by
 obtain ⟨h1,h2⟩:=decDigits_digs u u (Lr _)
 obtain ⟨h3,h4⟩:=takeWhile_digs h1 ht
 unfold digsP
 rw [h3,h4,h2]
 have hl:(decDigits u).length=nDigits u:=decDigits_length u
 have hp:=nDigits_pos u
 have hq:=nDigits_le 18 u (by omega)
 have hno:¬ ((neg=false∧9223372036854775807<u)∨9223372036854775808<u):=by
  rintro (⟨e,h⟩ | h)
  ·have:=hn e;omega
  ·omega
 rw [if_neg (by omega),if_neg hno]
theorem itoa_head (z:Int):∃c r,itoa z=c::r∧(c=45∨isDig c=true):=by
 have hd:∀u,∃c r,decDigits u=c::r∧isDig c=true:=by
  intro u
  obtain ⟨h1,-⟩:=decDigits_digs u u (Lr _)
  have hl:(decDigits u).length=nDigits u:=decDigits_length u
  have hp:=nDigits_pos u
  cases h:decDigits u with
  | nil=>rw [h] at hl;simp at hl;omega
  | cons c r=>exact ⟨c,r,rfl,h1 c (by rw [h];simp)⟩
 unfold itoa
 split
 ·exact ⟨45,_,rfl,.inl rfl⟩
 ·obtain ⟨c,r,h,hc⟩:=hd z.toNat
  exact ⟨c,r,h,.inr hc⟩
theorem isDig_ne {c:UInt8} (h:isDig c=true):48≤c.toNat∧c.toNat≤57:=by
 unfold isDig at h
 rw [Bool.and_eq_true,decide_eq_true_eq,decide_eq_true_eq] at h
 exact ⟨UInt8.le_iff_toNat_le.1 h.1,UInt8.le_iff_toNat_le.1 h.2⟩
theorem numberP_back {z:Int} {t:List UInt8} (hz:wideI z=true) (ht:okR t):numberP (itoa z++t)=some (.mk 2 false z ⟨#[]⟩ [] [],t):=by
 unfold wideI at hz
 rw [Bool.and_eq_true,decide_eq_true_eq,decide_eq_true_eq] at hz
 by_cases h:z<0
 ·have e:itoa z=45::decDigits z.natAbs:=by unfold itoa;rw [if_pos h]
  rw [e]
  show digsP true (decDigits z.natAbs++t)=_
  rw [digsP_back (by omega) (fun e=>by cases e) ht]
  rw [if_pos rfl,show -(z.natAbs:Int)=z by omega]
 ·have e:itoa z=decDigits z.toNat:=by unfold itoa;rw [if_neg h]
  have hh:(itoa z++t).head? ≠ some 45:=by
   obtain ⟨c,r,h1,h2⟩:=itoa_head z
   obtain ⟨h3,-⟩:=decDigits_digs z.toNat z.toNat (Lr _)
   rw [e] at h1
   have:=isDig_ne (h3 c (by rw [h1];simp))
   rw [e,h1]
   show some c ≠ some 45
   intro e'
   have e':=Option.some.inj e'
   subst e'
   revert this;decide
  unfold numberP
  rw [if_neg hh,e,digsP_back (by omega) (fun _=>by omega) ht]
  rw [if_neg (by decide),show (z.toNat:Int)=z by omega]
def nameP (mp:Bool) (ns:List ByteArray) (t:List UInt8):Option (List ByteArray × List UInt8):=
 if mp then match t with
  | 34::r=>match quotedP r with
   | some (o,58::r')=>some (ns++[⟨o.toArray⟩],r')
   | _=>none
  | _=>none
 else some (ns,t)
def itemsP (V:List UInt8→Option (ND × List UInt8)) (mp:Bool) (e:UInt8):Nat→List ByteArray→List ND→List UInt8→Option ((List ByteArray × List ND) × List UInt8)
 | 0,_,_,_=>none
 | n+1,ns,its,t=>
  if its=[]∧t.head?=some e then some ((ns,its),t.tail)
  else match nameP mp ns t with
   | none=>none
   | some (ns',t1)=>match V t1 with
    | none=>none
    | some (x,t2)=>match t2 with
     | []=>none
     | c::t3=>if c=e then some ((ns',its++[x]),t3) else if c ≠ 44∨256<its.length+1 then none else itemsP V mp e n ns' (its++[x]) t3
def valueP:Nat→List UInt8→Option (ND × List UInt8)
 | 0,_=>none
 | d+1,t=>
  if t=[] then none
  else if List.isPrefixOf [110,117,108,108] t=true then some (nd0,t.drop 4)
  else if List.isPrefixOf [116,114,117,101] t=true then some (.mk 1 true 0 ⟨#[]⟩ [] [],t.drop 4)
  else if List.isPrefixOf [102,97,108,115,101] t=true then some (.mk 1 false 0 ⟨#[]⟩ [] [],t.drop 5)
  else if t.head?=some 34 then (quotedP t.tail).map fun x=>(.mk 3 false 0 ⟨x.1.toArray⟩ [] [],x.2)
  else if t.head?=some 91 then (itemsP (valueP d) false 93 t.length [] [] t.tail).map fun x=>(.mk 4 false 0 ⟨#[]⟩ x.1.1 x.1.2,x.2)
  else if t.head?=some 123 then (itemsP (valueP d) true 125 t.length [] [] t.tail).map fun x=>(.mk 5 false 0 ⟨#[]⟩ x.1.1 x.1.2,x.2)
  else numberP t
theorem valueP_cons (d:Nat) (c:UInt8) (r:List UInt8):valueP (d+1) (c::r) =
 if List.isPrefixOf [110,117,108,108] (c::r)=true then some (nd0,(c::r).drop 4)
 else if List.isPrefixOf [116,114,117,101] (c::r)=true then some (.mk 1 true 0 ⟨#[]⟩ [] [],(c::r).drop 4)
 else if List.isPrefixOf [102,97,108,115,101] (c::r)=true then some (.mk 1 false 0 ⟨#[]⟩ [] [],(c::r).drop 5)
 else if c=34 then (quotedP r).map fun x=>(.mk 3 false 0 ⟨x.1.toArray⟩ [] [],x.2)
 else if c=91 then (itemsP (valueP d) false 93 (r.length+1) [] [] r).map fun x=>(.mk 4 false 0 ⟨#[]⟩ x.1.1 x.1.2,x.2)
 else if c=123 then (itemsP (valueP d) true 125 (r.length+1) [] [] r).map fun x=>(.mk 5 false 0 ⟨#[]⟩ x.1.1 x.1.2,x.2)
 else numberP (c::r):=by
 conv=>lhs;unfold valueP
 rw [if_neg (by simp)]
 simp only [List.head?_cons,Option.some.injEq,List.tail_cons,List.length_cons]
theorem prefix_ne {a c:UInt8} {l r:List UInt8} (h:c ≠ a):¬List.isPrefixOf (a::l) (c::r)=true:=by
 intro e
 rw [List.isPrefixOf_cons_cons,Bool.and_eq_true] at e
 exact h (eq_of_beq e.1).symm
theorem valueP_other (d:Nat) (c:UInt8) (r:List UInt8) (h1:c ≠ 110) (h2:c ≠ 116) (h3:c ≠ 102):valueP (d+1) (c::r) =
 if c=34 then (quotedP r).map fun x=>(.mk 3 false 0 ⟨x.1.toArray⟩ [] [],x.2)
 else if c=91 then (itemsP (valueP d) false 93 (r.length+1) [] [] r).map fun x=>(.mk 4 false 0 ⟨#[]⟩ x.1.1 x.1.2,x.2)
 else if c=123 then (itemsP (valueP d) true 125 (r.length+1) [] [] r).map fun x=>(.mk 5 false 0 ⟨#[]⟩ x.1.1 x.1.2,x.2)
 else numberP (c::r):=by
 rw [valueP_cons,if_neg (prefix_ne h1),if_neg (prefix_ne h2),if_neg (prefix_ne h3)]
theorem kinds {d:Nat} {x:ND} (h:validN (d+1) x=true):x=nd0∨(x=.mk 1 x.bool 0 ⟨#[]⟩ [] [])∨(x=.mk 2 false x.num ⟨#[]⟩ [] [])∨(x=.mk 3 false 0 x.text [] [])∨(x=.mk 4 false 0 ⟨#[]⟩ [] x.items)∨(x=.mk 5 false 0 ⟨#[]⟩ x.names x.items∧x.names.length=x.items.length):=by
 rw [validN_succ,Bool.and_eq_true] at h
 obtain ⟨hf,-⟩:=h
 unfold flatOk at hf
 simp only [Bool.and_eq_true,Bool.or_eq_true,decide_eq_true_eq,Bool.not_eq_true'] at hf
 obtain ⟨⟨⟨⟨⟨⟨⟨⟨⟨⟨⟨h0,h5⟩,hb⟩,hn⟩,ht⟩,hi⟩,hm⟩,-⟩,-⟩,hl⟩,-⟩,-⟩:=hf
 obtain ⟨k,b,n,t,ns,its⟩:=x
 simp only [ND.kind,ND.bool,ND.num,ND.text,ND.names,ND.items] at *
 have hcase:k=0∨k=1∨k=2∨k=3∨k=4∨k=5:=by omega
 have e1:k ≠ 1→b=false:=fun h=>hb.resolve_right h
 have e2:k ≠ 2→n=0:=fun h=>hn.resolve_right h
 have e3:k ≠ 3→t=⟨#[]⟩:=fun h=>ht.resolve_right h
 have e4:k<4→its=[]:=fun h=>List.length_eq_zero_iff.1 (hi.resolve_right (by omega))
 have e5:k ≠ 5→ns=[]:=fun h=>List.length_eq_zero_iff.1 (hm.resolve_right h)
 rcases hcase with rfl | rfl | rfl | rfl | rfl | rfl
 ·left;rw [e1 (by decide),e2 (by decide),e3 (by decide),e4 (by decide),e5 (by decide)];rfl
 ·right;left;rw [e2 (by decide),e3 (by decide),e4 (by decide),e5 (by decide)]
 ·right;right;left;rw [e1 (by decide),e3 (by decide),e4 (by decide),e5 (by decide)]
 ·right;right;right;left;rw [e1 (by decide),e2 (by decide),e4 (by decide),e5 (by decide)]
 ·right;right;right;right;left;rw [e1 (by decide),e2 (by decide),e3 (by decide),e5 (by decide)]
 ·right;right;right;right;right;rw [e1 (by decide),e2 (by decide),e3 (by decide)];exact ⟨rfl,hl.resolve_left (by decide)⟩
theorem writeN_head {d:Nat} {x:ND} (h:validN (d+1) x=true):∃c r,writeN (d+1) x=c::r∧c ≠ 93∧c ≠ 125:=by
 rcases kinds h with e | e | e | e | e | ⟨e,-⟩ <;> rw [e]
 ·exact ⟨110,_,rfl,by decide,by decide⟩
 ·cases x.bool
  ·exact ⟨102,_,rfl,by decide,by decide⟩
  ·exact ⟨116,_,rfl,by decide,by decide⟩
 ·obtain ⟨c,r,h1,h2⟩:=itoa_head x.num
  refine ⟨c,r,h1,?_,?_⟩
  all_goals
   intro e;subst e
   rcases h2 with h2 | h2 <;> revert h2 <;> decide
 ·exact ⟨34,_,rfl,by decide,by decide⟩
 ·exact ⟨91,_,rfl,by decide,by decide⟩
 ·exact ⟨123,_,rfl,by decide,by decide⟩
theorem okR_cons {c:UInt8} {r:List UInt8} (h:isDig c=false):okR (c::r):=fun c' e=>by cases e;exact h
theorem sepL_cons {a:List UInt8} {l:List (List UInt8)}:l ≠ []→sepL (a::l)=a++44::sepL l:=by
 intro h
 cases l with
 | nil=>exact absurd rfl h
 | cons b t=>rfl
theorem list_back {V:List UInt8→Option (ND × List UInt8)} {W:ND→List UInt8} {t:List UInt8}:∀ (its:List ND) (n:Nat) (done:List ND),its ≠ []→its.length≤n→done.length+its.length≤256 →
 (∀y,y ∈ its→(∀r,okR r→V (W y++r)=some (y,r))∧∃c r,W y=c::r∧c ≠ 93) →
 itemsP V false 93 n [] done (sepL (its.map W)++93::t)=some (([],done++its),t)
 | [],_,_,h,_,_,_=>absurd rfl h
 | y::ys,0,_,_,h,_,_=>by simp at h
 | y::ys,n+1,done,_,hn,hd,hy=>by
  obtain ⟨hv,c,r,hc,hne⟩:=hy y (by simp)
  have hhead:¬ (done=[]∧(sepL ((y::ys).map W)++93::t).head?=some 93):=by
   rintro ⟨-,h⟩
   have:(sepL ((y::ys).map W)++93::t).head?=some c:=by
    cases ys with
    | nil=>show (W y++93::t).head?=_;rw [hc];rfl
    | cons z zs=>rw [List.map_cons,sepL_cons (by simp),hc];rfl
   rw [this] at h
   exact hne (Option.some.inj h)
  unfold itemsP
  rw [if_neg hhead]
  show (match V (sepL ((y::ys).map W)++93::t) with
   | none=>none
   | some (x,t2)=>match t2 with
    | []=>none
    | c::t3=>if c=93 then some (([],done++[x]),t3) else if c ≠ 44∨256<done.length+1 then none else itemsP V false 93 n [] (done++[x]) t3)=_
  cases ys with
  | nil=>
   show (match V (W y++93::t) with | none=>none | some (x,t2)=>_)=_
   rw [hv _ (okR_cons (by decide))]
   rfl
  | cons z zs=>
   rw [List.map_cons,sepL_cons (by simp),List.append_assoc,List.cons_append,hv _ (okR_cons (by decide))]
   have ih:=list_back (V:=V) (W:=W) (t:=t) (z::zs) n (done++[y]) (by simp) (by simpa using hn) (by simp at hd ⊢;omega) (fun w hw=>hy w (by simp at hw ⊢;exact .inr hw))
   show (if (44:UInt8)=93 then _ else if (44:UInt8) ≠ 44∨256<done.length+1 then none else itemsP V false 93 n [] (done++[y]) (sepL ((z::zs).map W)++93::t))=_
   rw [if_neg (by decide),if_neg (by simp at hd ⊢;omega),ih]
   simp
end Go.Proofs.YtcklddldejejcaaGreatDoor