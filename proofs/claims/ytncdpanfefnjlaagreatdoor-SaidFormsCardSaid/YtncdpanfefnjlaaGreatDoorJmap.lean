import Derived.Test.YtncdpanfefnjlaaGreatDoorNshape
set_option linter.unusedVariables false
set_option linter.unusedSimpArgs false
set_option maxHeartbeats 1600000
set_option maxRecDepth 100000
namespace Go.Proofs.YtncdpanfefnjlaaGreatDoor
open Go.Proofs.Tryz
open Go.Lib
theorem xK {n n' e f c c1 c2 c3 d b i k:Nat} (h:checkN n e f c d b i=some k) (l:n≤n') (a:1<k→c1=e) (g:2<k→c2=f) (j:3<k→c3=c):checkN n' c1 c2 c3 d b i=some k∧k≤n∧2≤k:=by
 unfold checkN at h ⊢
 split at h
 ·split at h
  ·cases h
  ·cases h
   rename_i e1 e2
   have:=a (by decide)
   rw [Am e1,Ae (by omega)]
   exact ⟨rfl,by omega,by omega⟩
 ·split at h
  ·split at h
   ·cases h
   ·cases h
    rename_i e0 e1 e2
    have:=a (by decide)
    have:=g (by decide)
    rw [Ae e0,Am e1,Ae (by omega)]
    exact ⟨rfl,by omega,by omega⟩
  ·split at h
   ·split at h
    ·cases h
    ·cases h
     rename_i e0 e1 e2 e3
     have:=a (by decide)
     have:=g (by decide)
     have:=j (by decide)
     rw [Ae e0,Ae e1,Am e2,Ae (by omega)]
     exact ⟨rfl,by omega,by omega⟩
   ·cases h
theorem rK:∀ (n:Nat) (l m:Ub),l.length≤n→validD l=true→validD (l++m)=validD m
 | n,[],m,_,_=>rfl
 | 0,b::t,m,hn,_=>by simp at hn
 | n+1,b::t,m,hn,h=>by
  by_cases f:b.toNat<128
  ·rw [validD_cons b t f] at h
   show validD (b::(t++m))=_
   rw [validD_cons b _ f];exact rK n t m (by simpa using hn) h
  ·have e:=validD_lead (b::t) (by simp) (by show 128≤b.toNat;omega)
   rw [h] at e
   split at e
   ·cases e
   ·rename_i k a
    have c:∀i,i<(b::t).length→((b::t)++m).getD i 0=(b::t).getD i 0:=fun i p=>by
     simp only [Cv];rw [Cs p]
    have g:k≤(b::t).length:=(xK a (Lr _) (fun _=>rfl) (fun _=>rfl) (fun _=>rfl)).2.1
    obtain ⟨o,j,q⟩:=xK (n':=((b::t)++m).length) a (by simp) (c1:=(((b::t)++m).getD 1 0).toNat) (c2:=(((b::t)++m).getD 2 0).toNat) (c3:=(((b::t)++m).getD 3 0).toNat) (fun a=>by rw [c 1 (by omega)]) (fun a=>by rw [c 2 (by omega)]) (fun a=>by rw [c 3 (by omega)])
    have d:=validD_lead ((b::t)++m) (by simp) (by show 128≤b.toNat;omega)
    rw [c 0 (by simp)] at d
    rw [o] at d;rw [d]
    show validD (((b::t)++m).drop k)=_
    rw [List.drop_append_of_le_length j];exact rK n _ m (by rw [Ce];omega) e.symm
theorem DV {s t:Bt} (b:validD s.data.toList=true) (a:validD t.data.toList=true):validD (s++t).data.toList=true:=by
 have e:(s++t).data.toList=s.data.toList++t.data.toList:=by simp
 rw [e,rK _ _ _ (Lr _) b];exact a
def aZ (s:Bt):Bool:=decide (s.size≤65536) && validD s.data.toList
end Go.Proofs.YtncdpanfefnjlaaGreatDoor
namespace Go.Proofs.YtncdpanfefnjlaaGreatDoor
open Go.Proofs.Tryz
open Go Go.Maps Go.RowKit
def inB (s:Bt) (ns:List Bt):Bool:=ns.any fun t=>decide (s=t)
theorem qG (s:Bt) (ns:List Bt):inB s ns=true↔s ∈ ns:=by
 unfold inB;rw [List.any_eq_true]
 constructor
 ·rintro ⟨t,a,e⟩
  rw [Ci e];exact a
 ·exact fun h=>⟨s,h,Ap rfl⟩
def WW:List Bt→DataW Unit
 | []=>.map []
 | s::ns=>(WW ns).put (.string s.data.toList) (.lit (.bool true))
theorem zK:∀ns,IsMap (WW ns)
 | []=>isMap_empty
 | _::ns=>(zK ns).put _ _
theorem UG (s:Bt):∀ns,(WW ns).atKey (.string s.data.toList) (.lit (.bool false))=.lit (.bool (inB s ns))
 | []=>by
  rfl
 | t::ns=>by
  unfold WW
  by_cases h:s=t
  ·subst h
   rw [atKey_put_same (zK ns) (show WideAt.IsKeyLit (.string s.data.toList) from trivial)]
   rw [(qG s (s::ns)).2 (by simp)]
  ·have a:s.data.toList ≠ t.data.toList:=fun e=>h (Cr (Cg.1 e))
   rw [atKey_put_other (by intro e;simp only [Lit.string.injEq] at e;first | exact a e | exact a e.symm),UG s ns]
   simp [inB,h]
section
variable {P:Program} {t k e:TypeId} {w:World} {b:Nat} {ns:List Bt}
def dH (P:Program) (k e:TypeId) (w:World) (b:Nat) (ns:List Bt):Prop:=w.ownsMap P k (plainElem (H:=Unit) P e) b ns.length (WW ns)
theorem rP {H:Type} (a:P.underlying e=some .bool) {v:Value} {z:DataW H × List MemPlace} (h:plainElem P e v=some z):∃x,v=.bool x∧z=(.lit (.bool x),[]):=by
 unfold plainElem at h;rw [a] at h;cases v <;> simp at h;exact ⟨_,rfl,h.symm⟩
theorem dH.look (h:dH P k e w b ns) (K:Keyed P k) (j:P.underlying t=some (.map k e)) (f:P.underlying e=some .bool) (g:(zeroValue e).run P w=.ok (.bool false) w) (s:Bt) (a:keyOf P k (.string s)=some (.string s.data.toList)) :
 (Instr.lookup t (.map (some b)) (.string s) false).run P w=.ok (.bool (inB s ns)) w:=by
 obtain ⟨v,l,c,i⟩:=World.ownsMap.lookup h K j g (plainElem_bool f false) a;obtain ⟨x,rfl,d⟩:=rP f i;rw [UG] at d;simp only [Dt,Db,Lit.bool.injEq] at d;rw [c,d.1]
theorem dH.kept {w':World} {row:Option Nat} (h:dH P k e w b ns) (c:w.grownBy w' row) (a:some b ≠ row):dH P k e w' b ns:=Cu h c a
theorem dH.lt (h:dH P k e w b ns):b<w.heap.size:=World.ownsMap.lt h
theorem dH.below {w':World} (h:dH P k e w b ns) (a:Below w.heap.size w w'):dH P k e w' b ns:=
 h.kept (row:=none) ⟨a.os,a.tape,a.output,a.size,fun i c _=>a.block i c⟩ (by simp)
theorem dH.made (w:World) (P:Program) (k e:TypeId):dH P k e (w.alloc (.map #[] 0)) w.heap.size []:=World.ownsMap_made w P k _
theorem dH.put {w':World} {s:Bt} (h:w'.ownsMap P k (plainElem (H:=Unit) P e) b (ns.length+1) ((WW ns).put (.string s.data.toList) (.lit (.bool true)))):dH P k e w' b (s::ns):=h
end
end Go.Proofs.YtncdpanfefnjlaaGreatDoor
namespace Go.Proofs.YtncdpanfefnjlaaGreatDoor
open Go.Proofs.Tryz
def fC (x:ND):Bool:=
 decide (0≤x.kind) && decide (x.kind≤5) && (!x.bool || decide (x.kind=1)) && (decide (x.num=0) || decide (x.kind=2)) && (decide (x.text=⟨#[]⟩) || decide (x.kind=3)) &&
 (decide (x.items.length=0) || decide (4≤x.kind)) && (decide (x.names.length=0) || decide (x.kind=5)) && aZ x.text && decide (x.items.length≤256) && (decide (x.kind ≠ 5) || decide (x.names.length=x.items.length)) &&
 x.names.all aZ && decide x.names.Nodup
def aC:Nat→ND→Bool
 | 0,_=>false
 | d+1,x=>fC x && x.items.all (aC d)
theorem cV (d:Nat) (x:ND):aC (d+1) x=(fC x && x.items.all (aC d)):=rfl
theorem wL:∀ {d a:Nat} {x:ND},d≤a→aC d x=true→aC a x=true
 | 0,_,_,_,h=>by cases h
 | d+1,0,_,hd,_=>by omega
 | d+1,a+1,x,hd,h=>by
  rw [cV,An,Ax] at h ⊢;exact ⟨h.1,fun y b=>wL (by omega) (h.2 y b)⟩
def eY (x:ND) (s:Bt):Option ND:=
 if x.kind=5 then (x.names.findIdx? (fun t=>decide (t=s))).bind fun i=>x.items[i]? else none
def AA (x:ND) (s:Bt) (v:ND):ND:=
 match x.names.findIdx? (fun t=>decide (t=s)) with
 | some i=>.mk x.kind x.bool x.num x.text x.names (x.items.set i v)
 | none=>.mk x.kind x.bool x.num x.text (x.names++[s]) (x.items++[v])
theorem fM {l:List Bt} {s:Bt} {i:Nat} (h:l.findIdx? (fun t=>decide (t=s))=some i):l[i]?=some s∧∀j,j<i→l[j]? ≠ some s:=by
 rw [List.findIdx?_eq_some_iff_getElem] at h;obtain ⟨c,a,b⟩:=h;refine ⟨by rw [Ac c];exact Ad some (Ci a),fun j d e=>?_⟩
 rw [Ac (by omega)] at e
 exact b j d (Ap (Ab e))
theorem nU {l:List Bt} {s:Bt} (h:l.findIdx? (fun t=>decide (t=s))=none):s ∉ l:=by
 rw [List.findIdx?_eq_none_iff] at h;intro a;have:=h s a;simp at this
theorem mD {l:List Bt} {s:Bt} {i:Nat} (c:l.Nodup) (h:l[i]?=some s):l.findIdx? (fun t=>decide (t=s))=some i:=by
 rw [List.findIdx?_eq_some_iff_getElem];have b:i<l.length:=by
  rcases Cf i l.length with a | a
  ·exact a
  ·rw [Cb a] at h;cases h
 rw [Ac b] at h;have h:=Ab h;refine ⟨b,Ap h,fun j d e=>?_⟩
 have e:l[j]=s:=Ci e;have:=(List.nodup_iff_pairwise_ne.1 c);rw [List.pairwise_iff_getElem] at this;exact this j i (by omega) b d (e.trans h.symm)
theorem aHu {x:ND} {s:Bt} {i:Nat} {y:ND} (d:x.kind=5) (b:x.names.Nodup) (a:x.names[i]?=some s) (c:x.items[i]?=some y):eY x s=some y:=by
 unfold eY;rw [Am d,mD b a];exact c
structure cO (d:Nat) (x:ND):Prop where
 kind:x.kind=5
 bool:x.bool=false
 num:x.num=0
 text:x.text=⟨#[]⟩
 len:x.names.length=x.items.length
 most:x.items.length≤256
 texts:∀s,s ∈ x.names→aZ s=true
 nodup:x.names.Nodup
 items:∀y,y ∈ x.items→aC d y=true
theorem cK {d:Nat} {x:ND} (a:x.kind=5):aC (d+1) x=true↔cO d x:=by
 have g:aZ ⟨#[]⟩=true:=by decide
 rw [cV];unfold fC;simp only [An,Ax,a]
 constructor
 ·rintro ⟨⟨⟨⟨⟨⟨⟨⟨⟨⟨⟨⟨-,-⟩,e⟩,j⟩,i⟩,-⟩,-⟩,-⟩,k⟩,b⟩,f⟩,l⟩,c⟩
  refine ⟨a,?_,?_,?_,?_,?_,f,by simpa using l,c⟩
  ·simpa using e
  ·simpa using j
  ·simpa using i
  ·simpa using b
  ·simpa using k
 ·intro h
  refine ⟨⟨⟨⟨⟨⟨⟨⟨⟨⟨⟨⟨by decide,by decide⟩,?_⟩,?_⟩,?_⟩,?_⟩,?_⟩,?_⟩,?_⟩,?_⟩,h.texts⟩,by simpa using h.nodup⟩,h.items⟩
  ·simp [h.bool]
  ·simp [h.num]
  ·simp [h.text]
  ·simp
  ·simp
  ·rw [h.text];exact g
  ·simpa using h.most
  ·simp [h.len]
theorem IN {d:Nat} {x:ND} {s:Bt} (h:cO d x):(eY x s).isSome=true↔s ∈ x.names:=by
 have g:=h.len;unfold eY;rw [Am h.kind]
 constructor
 ·intro e
  cases hf:x.names.findIdx? (fun t=>decide (t=s)) with
  | none=>rw [hf] at e;simp at e
  | some i=>exact Ao (fM hf).1
 ·intro c
  cases hf:x.names.findIdx? (fun t=>decide (t=s)) with
  | none=>exact (nU hf c).elim
  | some i=>
   have b:=(fM hf).1;have f:i<x.names.length:=by
    rcases Cf i x.names.length with a | a
    ·exact a
    ·rw [Cb a] at b;cases b
   show (x.items[i]?).isSome=true
   rw [Ac (by omega)];rfl
def dD (z:Int):Bool:=decide (-9223372036854775808≤z) && decide (z≤9223372036854775807)
def aP:Nat→ND→Bool
 | 0,_=>true
 | d+1,x=>dD x.num && x.items.all (aP d)
def eS (d:Nat) (x:ND):Bool:=aC d x && aP d x
theorem eF {d:Nat} {x:ND} (h:eS d x=true):aC d x=true:=by unfold eS at h;rw [An] at h;exact h.1
theorem fI {d:Nat} {x:ND} (h:eS d x=true):aP d x=true:=by unfold eS at h;rw [An] at h;exact h.2
theorem uR {d:Nat} {x:ND} (h:aC (d+1) x=true) (c:dD x.num=true) (b:∀y,y ∈ x.items→eS d y=true):eS (d+1) x=true:=by
 unfold eS aP;rw [h,c,Bool.true_and,Bool.true_and,Ax];exact fun y a=>fI (b y a)
theorem cS (d:Nat) (x:ND):aP (d+1) x=(dD x.num && x.items.all (aP d)):=rfl
def bK:Nat→ND→Nat
 | 0,_=>0
 | d+1,x=>24+6 * x.text.size+(x.names.map fun s=>6 * s.size+8).sum+(x.items.map fun y=>bK d y+1).sum
theorem fR (d:Nat) (x:ND):bK (d+1) x=24+6 * x.text.size+(x.names.map fun s=>6 * s.size+8).sum+(x.items.map fun y=>bK d y+1).sum:=rfl
def qQ:Nat→Nat
 | 0=>259
 | d+1=>1047+3 * qQ d
theorem vV (d:Nat):qQ (d+1)=1047+3 * qQ d:=rfl
theorem aFb:∀ {d:Nat},1≤d→1824≤qQ d
 | 1,_=>by decide
 | d+2,_=>by have:=aFb (d:=d+1) (by omega);rw [vV];omega
theorem uU {b:Type} {f:b→Nat} {c:Nat}:∀ {l:List b},(∀y,y ∈ l→f y≤c)→(l.map f).sum≤c * l.length
 | [],_=>Lr _
 | a::t,h=>by
  have e:=uU (f:=f) (c:=c) (l:=t) fun y d=>h y (by simp [d])
  have g:=h a (by simp)
  rw [Bq,Cy,Ag,Nat.mul_add];omega
theorem BX:∀ {e d:Nat} {x:ND},e≤d→aC e x=true→bK d x=bK e x
 | 0,_,_,_,h=>by cases h
 | e+1,0,_,h,_=>by omega
 | e+1,d+1,x,hd,h=>by
  rw [cV,An,Ax] at h;rw [fR,fR,Ct (g:=fun y=>bK e y+1) fun y a=>by rw [BX (by omega) (h.2 y a)]]
def gF (d:Nat) (x:ND):Bool:=eS d x && decide (bK d x≤qQ d)
theorem zB {d:Nat} {x:ND} (h:gF d x=true):eS d x=true:=by unfold gF at h;rw [An] at h;exact h.1
theorem sQ {d:Nat} {x:ND} (h:gF d x=true):aC d x=true:=eF (zB h)
theorem KS {d:Nat} {x:ND} (h:gF d x=true):bK d x≤qQ d:=by unfold gF at h;rw [An] at h;exact Ci h.2
theorem DX {d:Nat} {x:ND} (h:eS d x=true) (a:bK d x≤qQ d):gF d x=true:=by unfold gF;rw [h,Ap a];rfl
def oD (d:Nat) (its:List ND):Nat:=(its.map fun y=>bK d y+1).sum
theorem FU {d:Nat} {its:List ND} (h:∀y,y ∈ its→gF d y=true) (b:its.length≤3):oD d its≤3 * (qQ d+1):=by
 have:=uU (f:=fun y=>bK d y+1) (c:=qQ d+1) (l:=its) fun y a=>Nat.succ_le_succ (KS (h y a))
 exact Af this (by rw [Nat.mul_comm];exact Nat.mul_le_mul_right _ b)
theorem SX (d:Nat) (its:List ND) (y:ND):oD d (its++[y])=oD d its+(bK d y+1):=by unfold oD;rw [Ef,List.sum_append];rfl
def bR (n:Nat):Nat→Ub
 | 0=>[]
 | k+1=>UInt8.ofNat (n / 256 ^ k)::bR n k
theorem aQ (n:Nat):∀k,(bR n k).length=k
 | 0=>rfl
 | k+1=>by rw [bR,Ag,aQ n k]
def gM (l:Ub):Nat:=l.foldl (fun a c=>a * 256+c.toNat) 0
theorem aFc:∀ (l:Ub) (a:Nat),l.foldl (fun a c=>a * 256+c.toNat) a=a * 256 ^ l.length+gM l
 | [],a=>by simp [gM]
 | c::t,a=>by
  unfold gM;rw [List.foldl_cons,List.foldl_cons,aFc t (a * 256+c.toNat),aFc t (0 * 256+c.toNat),Ag,Dz,Nat.zero_mul,Ca,Nat.add_mul,Nat.mul_assoc,Nat.mul_comm 256 (256 ^ t.length)];omega
theorem GA (c:UInt8) (t:Ub):gM (c::t)=c.toNat * 256 ^ t.length+gM t:=by
 have:=aFc t c.toNat;unfold gM at this ⊢;rw [List.foldl_cons,Nat.zero_mul,Ca];exact this
theorem jB (n:Nat):∀k,gM (bR n k)=n % 256 ^ k
 | 0=>by rw [Nat.pow_zero,Nat.mod_one];rfl
 | k+1=>by
  have h:n % (256 ^ k * 256)=n % 256 ^ k+256 ^ k * (n / 256 ^ k % 256):=Nat.mod_mul;rw [bR,GA,aQ,jB n k,Bb,show 256 ^ (k+1)=256 ^ k * 256 from Dz ..,h,Nat.mul_comm]
  show 256 ^ k * (n / 256 ^ k % 256)+_=_
  omega
theorem lR {n k:Nat} (h:n<256 ^ k):gM (bR n k)=n:=by rw [jB,Nat.mod_eq_of_lt h]
theorem aFd {n m k:Nat} (a:n<256 ^ k) (b:m<256 ^ k) (h:bR n k=bR m k):n=m:=by
 rw [←lR a,←lR b,h]
def eC (n:Nat):Nat:=if n<24 then 0 else if n<256 then 1 else if n<65536 then 2 else if n<4294967296 then 4 else 8
def eW (n:Nat):Nat:=if n<24 then n else if n<256 then 24 else if n<65536 then 25 else if n<4294967296 then 26 else 27
def cR (m n:Nat):Ub:=UInt8.ofNat (32 * m+eW n)::bR n (eC n)
theorem eH (m n:Nat):(cR m n).length=eC n+1:=by rw [cR,Ag,aQ]
theorem nB (n:Nat):eC n≤8:=by
 unfold eC
 (repeat' split) <;> omega
theorem BC (n:Nat):eW n<32:=by
 unfold eW
 (repeat' split) <;> omega
theorem aHs {n m:Nat} (h:eW n=eW m):eC n=eC m∧(eC n=0→n=m):=by
 unfold eW at h;unfold eC
 by_cases b:n<24
 ·rw [Am b] at h
  rw [Am b]
  by_cases a:m<24
  ·rw [Am a] at h ⊢;exact ⟨rfl,fun _=>h⟩
  ·rw [Ae a] at h
   exfalso
   revert h
   repeat' split
   all_goals omega
 ·rw [Ae b] at h
  rw [Ae b]
  by_cases a:m<24
  ·rw [Am a] at h
   exfalso
   revert h
   repeat' split
   all_goals omega
  ·rw [Ae a] at h
   rw [Ae a]
   revert h
   repeat' split
   all_goals (intro h;first | (exfalso;omega) | exact ⟨rfl,fun h=>absurd h (by decide)⟩)
theorem BE {n:Nat} (h:n<18446744073709551616):eC n=0∨n<256 ^ eC n:=by
 unfold eC
 repeat' split
 all_goals first | exact .inl rfl | (right;simp only [Nat.reducePow];omega)
theorem FF {m n b n':Nat} {t i:Ub} (r:m<8) (q:b<8) (l:n<18446744073709551616) (f:n'<18446744073709551616) (h:cR m n++t=cR b n'++i):m=b∧n=n'∧t=i:=by
 unfold cR at h;rw [Bo,Bo] at h;obtain ⟨c,j⟩:=List.cons.inj h;have c:=Ad UInt8.toNat c;rw [Bb,Bb] at c;have v1:=BC n;have v2:=BC n';have d:m=b:=by omega
 have g:eW n=eW n':=by omega
 obtain ⟨e,k⟩:=aHs g;rw [←e] at j;obtain ⟨o,p⟩:=List.append_inj j (by rw [aQ,aQ])
 refine ⟨d,?_,p⟩;rcases BE l with h | h
 ·exact k h
 ·rcases BE f with a | a
  ·exact k (e.trans a)
  ·rw [←e] at a
   exact aFd h a o
def fZ (x:ND):Nat:=if x.kind=1 then 7 else if x.kind=2 then (if x.num<0 then 1 else 0) else if x.kind=3 then 3 else if x.kind=4 then 4 else if x.kind=5 then 5 else 7
def gL (x:ND):Nat:=if x.kind=1 then (if x.bool then 21 else 20) else if x.kind=2 then (if x.num<0 then (-1 - x.num).toNat else x.num.toNat) else if x.kind=3 then x.text.size else if x.kind=4 then x.items.length else if x.kind=5 then x.items.length else 22
def fT (s:Bt):Ub:=cR 3 s.size++s.data.toList
def aU:Nat→ND→Ub
 | 0,_=>[]
 | d+1,x=>cR (fZ x) (gL x) ++
  (if x.kind=3 then x.text.data.toList
  else if x.kind=4 then x.items.flatMap (aU d)
  else if x.kind=5 then (List.zipWith (fun s y=>fT s++aU d y) x.names x.items).flatten
  else [])
end Go.Proofs.YtncdpanfefnjlaaGreatDoor
namespace Go.Proofs.YtncdpanfefnjlaaGreatDoor
open Go.Proofs.Tryz
open Go.Lib
def lI (v:UInt8):UInt8:=if v<10 then 48+v else 87+v
def eN (c:UInt8):Ub:=
 if c=34∨c=92 then [92,c]
 else if c=8 then [92,98] else if c=9 then [92,116] else if c=10 then [92,110] else if c=12 then [92,102] else if c=13 then [92,114]
 else if c<32 then [92,117,48,48,lI (c / 16),lI (c % 16)] else [c]
def bE (l:Ub):Ub:=34::(l.flatMap eN++[34])
def lH (c:UInt8):Option UInt8:=if 48≤c∧c≤57 then some (c - 48) else if 97≤c∧c≤102 then some (c - 87) else none
def vR (c:UInt8):Option UInt8:=if c=34∨c=92 then some c else if c=98 then some 8 else if c=116 then some 9 else if c=110 then some 10 else if c=102 then some 12 else if c=114 then some 13 else none
def qO:Ub→Option (UInt8 × Ub)
 | 117::48::48::a::b::r=>match lH a,lH b with
  | some x,some y=>some (16 * x+y,r)
  | _,_=>none
 | c::r=>(vR c).map fun d=>(d,r)
 | []=>none
def wS:Ub→Option (Option UInt8 × Ub)
 | []=>none
 | c::r=>if c=34 then some (none,r) else if c=92 then (qO r).map fun x=>(some x.1,x.2) else some (some c,r)
theorem lX (c:UInt8) (r:Ub):wS (c::r)=if c=34 then some (none,r) else if c=92 then (qO r).map fun x=>(some x.1,x.2) else some (some c,r):=rfl
theorem aDt:∀c:UInt8,c<32→lH (lI (c / 16))=some (c / 16)∧lH (lI (c % 16))=some (c % 16)∧16 * (c / 16)+c % 16=c:=by
 have:∀n:Fin 256,(UInt8.ofNat n.1<32→lH (lI (UInt8.ofNat n.1 / 16))=some (UInt8.ofNat n.1 / 16)∧lH (lI (UInt8.ofNat n.1 % 16))=some (UInt8.ofNat n.1 % 16)∧16 * (UInt8.ofNat n.1 / 16)+UInt8.ofNat n.1 % 16=UInt8.ofNat n.1):=by decide +kernel
 intro c;have h:=this ⟨c.toNat,c.toNat_lt⟩
 rwa [show UInt8.ofNat c.toNat=c from Dp] at h
theorem XF (c:UInt8) (t:Ub):wS (eN c++t)=some (some c,t):=by
 unfold eN
 split
 ·rename_i h
  rcases h with rfl | rfl <;> rfl
 ·rename_i h0
  split
  ·rename_i h;subst h;rfl
  ·split
   ·rename_i h;subst h;rfl
   ·split
    ·rename_i h;subst h;rfl
    ·split
     ·rename_i h;subst h;rfl
     ·split
      ·rename_i h;subst h;rfl
      ·split
       ·rename_i h
        obtain ⟨a,d,b⟩:=aDt c h;have f:qO (117::48::48::lI (c / 16)::lI (c % 16)::t)=some (c,t):=by
         show (match lH (lI (c / 16)),lH (lI (c % 16)) with
          | some x,some y=>some (16 * x+y,t)
          | _,_=>none)=_
         rw [a,d]
         show some (16 * (c / 16)+c % 16,t)=_
         rw [b]
        show (qO (117::48::48::lI (c / 16)::lI (c % 16)::t)).map _=_
        rw [f];rfl
       ·rename_i h
        show wS (c::t)=_
        rw [lX,Ae (fun e=>h0 (.inl e)),Ae (fun e=>h0 (.inr e))]
theorem NK {l r:Ub} {c:UInt8} (h:qO l=some (c,r)):r <:+ l∧r.length<l.length:=by
 unfold qO at h
 split at h
 ·split at h
  ·cases h
   exact ⟨⟨_,Aj [117,48,48] [_,_] _⟩,by simp;omega⟩
  ·cases h
 ·rename_i c' r' _
  cases hc:vR c' with
  | none=>rw [hc] at h;cases h
  | some d=>rw [hc] at h;cases h;exact ⟨List.suffix_cons _ _,by simp⟩
 ·cases h
theorem tC {l r:Ub} {o:Option UInt8} (h:wS l=some (o,r)):r <:+ l∧r.length<l.length:=by
 cases l with
 | nil=>cases h
 | cons c t=>
  rw [lX] at h
  by_cases a:c=34
  ·rw [Am a] at h;cases h;exact ⟨List.suffix_cons _ _,by simp⟩
  ·rw [Ae a] at h
   by_cases b:c=92
   ·rw [Am b] at h
    cases he:qO t with
    | none=>rw [he] at h;cases h
    | some x=>
     rw [he] at h;cases h;have:=NK (c:=x.1) (r:=x.2) he;exact ⟨this.1.trans (List.suffix_cons _ _),by simp;omega⟩
   ·rw [Ae b] at h;cases h;exact ⟨List.suffix_cons _ _,by simp⟩
def kH:Nat→Ub→Option (Ub × Ub)
 | 0,_=>none
 | n+1,l=>match wS l with
  | none=>none
  | some (none,r)=>some ([],r)
  | some (some c,r)=>(kH n r).map fun x=>(c::x.1,x.2)
theorem tB:∀ (n m:Nat) (l:Ub),l.length<n→l.length<m→kH n l=kH m l
 | 0,_,_,h,_=>by omega
 | _,0,_,_,h=>by omega
 | n+1,m+1,l,hn,hm=>by
  unfold kH;cases h:wS l with
  | none=>rfl
  | some x=>
   obtain ⟨o,r⟩:=x;cases o with
   | none=>rfl
   | some c=>
    have:=(tC h).2
    show (kH n r).map _=(kH m r).map _
    rw [tB n m r (by omega) (by omega)]
def dA (l:Ub):Option (Ub × Ub):=kH (l.length+1) l
theorem iO (l:Ub):dA l=match wS l with
 | none=>none
 | some (none,r)=>some ([],r)
 | some (some c,r)=>(dA r).map fun x=>(c::x.1,x.2):=by
 unfold dA;rw [kH];cases h:wS l with
 | none=>rfl
 | some x=>
  obtain ⟨o,r⟩:=x;cases o with
  | none=>rfl
  | some c=>
   have:=(tC h).2
   show (kH l.length r).map _=(kH (r.length+1) r).map _
   rw [tB l.length (r.length+1) r (by omega) (by omega)]
theorem nJ:∀ (l t:Ub),dA (l.flatMap eN++34::t)=some (l,t)
 | [],t=>by rw [iO];rfl
 | c::r,t=>by
  rw [Cl,Aj,iO,XF]
  show (dA (r.flatMap eN++34::t)).map _=_
  rw [nJ r t];rfl
def dK:List (Ub)→Ub
 | []=>[]
 | [a]=>a
 | a::b::t=>a++44::dK (b::t)
theorem EE:∀ (l:List (Ub)) (a:Ub),l ≠ []→dK (l++[a])=dK l++44::a
 | [],_,h=>absurd rfl h
 | [b],a,_=>rfl
 | b::c::t,a,_=>by
  show b++44::dK ((c::t)++[a])=(b++44::dK (c::t))++44::a
  rw [EE (c::t) a (by simp)];simp
def aR:Nat→ND→Ub
 | 0,_=>[]
 | d+1,x=>
  if x.kind=1 then (if x.bool then [116,114,117,101] else [102,97,108,115,101])
  else if x.kind=2 then itoa x.num
  else if x.kind=3 then bE x.text.data.toList
  else if x.kind=4 then 91::(dK (x.items.map (aR d))++[93])
  else if x.kind=5 then 123::(dK (List.zipWith (fun s y=>bE s.data.toList++58::aR d y) x.names x.items)++[125])
  else [110,117,108,108]
theorem oL:∀ {e d:Nat} {x:ND},e≤d→aC e x=true→aR d x=aR e x
 | 0,_,_,_,h=>by cases h
 | e+1,0,_,h,_=>by omega
 | e+1,d+1,x,hd,h=>by
  rw [cV,An,Ax] at h;have c:x.items.map (aR d)=x.items.map (aR e):=Ct fun y f=>oL (by omega) (h.2 y f)
  have a:List.zipWith (fun s y=>bE s.data.toList++58::aR d y) x.names x.items=List.zipWith (fun s y=>bE s.data.toList++58::aR e y) x.names x.items:=by
   have:∀ (ns:List Bt) (its:List ND),(∀y,y ∈ its→aC e y=true)→List.zipWith (fun s y=>bE s.data.toList++58::aR d y) ns its=List.zipWith (fun s y=>bE s.data.toList++58::aR e y) ns its:=by
    intro ns
    induction ns with
    | nil=>intro its _;rfl
    | cons s t ih=>
     intro its b;cases its with
     | nil=>rfl
     | cons y u=>
      rw [Bh,Bh,ih u (fun z a=>b z (by simp [a])),oL (by omega) (b y (by simp))]
   exact this _ _ h.2
  unfold aR;rw [c,a]
end Go.Proofs.YtncdpanfefnjlaaGreatDoor
namespace Go.Proofs.YtncdpanfefnjlaaGreatDoor
open Go.Proofs.Tryz
open Go Go.Maps Go.ChangeShapes Go.WideShapes Go.ChangeAt Go.RowKit
theorem cC {H:Type} {P:Program} (w:World) {h:Array Oper} {rest:List Oper} {o:Oper} {a:Act} {Q:Exit→Act→World→Prop}
 (y:o.guard=none) (m x v:Operand) (t:TypeId) (p:o.op=Op.insert t m x v)
 (k e:TypeId) (K:Keyed P k) (B:P.underlying t=some (.map k e)) (R:Value→Option (DataW H × List MemPlace)) (b n:Nat) (D:DataW H)
 (A:a.eval m=.map (some b)) (j:w.ownsMap P k R b n D) (u:n<maxLen) (i c:Value) (q:Lit) (F:a.eval x=i) (z:a.eval v=c) (f:keyOf P k i=some q)
 (d:DataW H) (C:List MemPlace) (hval:R c=some (d,C))
 (E:∀w',w'.ownsMap P k R b (n+1) (D.put q d)→w.grownBy w' (some b)→wpList P h Q rest (a.put o.dst undef) w') :
 wpList P h Q (o::rest) a w:=by
 refine wpList_plain y fun G l=>?_
 obtain ⟨w',g,r,s⟩:=j.update K B u f hval;unfold Oper.wp;simp [execOp,p,A,F,z,g,Result.andThen];exact l _ _ (E w' r s)
theorem iK {D:DataW Unit} (a:IsMap D) (q:IntKind) (c l:Int) (d:DataW Unit):Maps.has (D.put (.int q c) d) (.int q l)=(decide (l=c) || Maps.has D (.int q l)):=by
 by_cases h:l=c
 ·subst h;rw [has_put_same a (show WideAt.IsKeyLit (.int q l) from trivial),Ap rfl];rfl
 ·rw [has_put_other (by intro e;cases e;exact h rfl),Ar h];rfl
theorem kI {D:DataW Unit} (a:IsMap D) (q:IntKind) (c l:Int) (d z:DataW Unit):(D.put (.int q c) d).atKey (.int q l) z=if l=c then d else D.atKey (.int q l) z:=by
 by_cases h:l=c
 ·subst h;rw [atKey_put_same a (show WideAt.IsKeyLit (.int q l) from trivial),Am rfl]
 ·rw [atKey_put_other (by intro e;cases e;exact h rfl),Ae h]
theorem oY {D:DataW Unit} (a:IsMap D) (c l:Ub) (d:DataW Unit):Maps.has (D.put (.string c) d) (.string l)=(decide (l=c) || Maps.has D (.string l)):=by
 by_cases h:l=c
 ·subst h;rw [has_put_same a (show WideAt.IsKeyLit (.string l) from trivial),Ap rfl];rfl
 ·rw [has_put_other (by intro e;cases e;exact h rfl),Ar h];rfl
theorem tD {D:DataW Unit} (a:IsMap D) (c l:Ub) (d z:DataW Unit):(D.put (.string c) d).atKey (.string l) z=if l=c then d else D.atKey (.string l) z:=by
 by_cases h:l=c
 ·subst h;rw [atKey_put_same a (show WideAt.IsKeyLit (.string l) from trivial),Am rfl]
 ·rw [atKey_put_other (by intro e;cases e;exact h rfl),Ae h]
def pE:DataW Unit:=((((((((DataW.map []).put (.int .u8 34) (.lit (.string [34]))).put (.int .u8 92) (.lit (.string [92]))).put (.int .u8 8) (.lit (.string [98]))).put (.int .u8 9) (.lit (.string [116]))).put (.int .u8 10) (.lit (.string [110]))).put (.int .u8 12) (.lit (.string [102]))).put (.int .u8 13) (.lit (.string [114])))
def kV (c:Int):Option UInt8:=if c=34 then some 34 else if c=92 then some 92 else if c=8 then some 98 else if c=9 then some 116 else if c=10 then some 110 else if c=12 then some 102 else if c=13 then some 114 else none
theorem lE (c:Int):Maps.has pE (.int .u8 c)=(kV c).isSome∧∀z,pE.atKey (.int .u8 c) z=match kV c with | some l=>.lit (.string [l]) | none=>z:=by
 have n:IsMap (.map []:DataW Unit):=isMap_empty;have i:=n.put (.int .u8 34) (.lit (.string [34]));have j:=i.put (.int .u8 92) (.lit (.string [92]));have m:=j.put (.int .u8 8) (.lit (.string [98]));have k:=m.put (.int .u8 9) (.lit (.string [116]));have o:=k.put (.int .u8 10) (.lit (.string [110]));have p:=o.put (.int .u8 12) (.lit (.string [102]));unfold pE;refine ⟨?_,fun z=>?_⟩
 ·rw [iK p,iK o,iK k,iK m,iK j,iK i,iK n,show Maps.has (.map []:DataW Unit) (.int .u8 c)=false from rfl]
  unfold kV
  by_cases b:c=13
  ·subst b;rfl
  by_cases f:c=12
  ·subst f;rfl
  by_cases e:c=10
  ·subst e;rfl
  by_cases g:c=9
  ·subst g;rfl
  by_cases a:c=8
  ·subst a;rfl
  by_cases d:c=92
  ·subst d;rfl
  by_cases h:c=34
  ·subst h;rfl
  simp [b,f,e,g,a,d,h]
 ·rw [kI p,kI o,kI k,kI m,kI j,kI i,kI n,show (.map []:DataW Unit).atKey (.int .u8 c) z=z from rfl]
  unfold kV
  by_cases b:c=13
  ·subst b;rfl
  by_cases f:c=12
  ·subst f;rfl
  by_cases e:c=10
  ·subst e;rfl
  by_cases g:c=9
  ·subst g;rfl
  by_cases a:c=8
  ·subst a;rfl
  by_cases d:c=92
  ·subst d;rfl
  by_cases h:c=34
  ·subst h;rfl
  simp [b,f,e,g,a,d,h]
theorem rC:Keyed prog 5:=int_keyed underlying5
theorem aAm (w:World):(zeroValue 9).run prog w=.ok (.string ⟨#[]⟩) w:=by kernel_rfl
def eQ (w:World) (m:Nat):Prop:=w.ownsMap prog 5 (plainElem (H:=Unit) prog 9) m 7 pE
theorem eQ.kept {w w':World} {m:Nat} {row:Option Nat} (h:eQ w m) (b:w.grownBy w' row) (a:some m ≠ row):eQ w' m:=Cu h b a
theorem eQ.below {w w':World} {m:Nat} (h:eQ w m) (a:Below w.heap.size w w'):eQ w' m:=h.kept (aK a (Lr _) none) (by simp)
theorem eQ.same {w w':World} {m:Nat} (h:eQ w m) (b:w'.heap[m]?=w.heap[m]?):eQ w' m:=by
 obtain ⟨f,a,c,F,d,e⟩:=h;exact ⟨f,a,b.trans c,F,d,e⟩
theorem eQ.lt {w:World} {m:Nat} (h:eQ w m):m<w.heap.size:=World.ownsMap.lt h
theorem eQ.look {w:World} {m:Nat} (h:eQ w m) {c:Int} (n:0≤c) (e:c≤255):(Instr.lookup 165 (.map (some m)) (.int .u8 c) true).run prog w=.ok (.tuple #[.string (match kV c with | some l=>⟨#[l]⟩ | none=>⟨#[]⟩),.bool (kV c).isSome]) w:=by
 have d:(Lit.int IntKind.u8 c).wf=true:=by simp [Lit.wf,IntKind.min,IntKind.max,IntKind.signed,IntKind.bits];omega
 obtain ⟨v,k,b,f⟩:=World.ownsMap.look_ok h rC underlying165 (aAm w) (Dc underlying9 (by decide)) (keyOf_int_mk underlying5 d)
 obtain ⟨s,rfl,a,_⟩:=plainElem_string_inv underlying9 f;obtain ⟨j,g⟩:=lE c;rw [b,j];rw [g] at a;have i:s=(match kV c with | some l=>⟨#[l]⟩ | none=>⟨#[]⟩):=by
  cases hq:kV c with
  | none=>
   rw [hq] at a;simp only [Dt,Db,Lit.string.injEq] at a;exact Cr (Cg.1 a.1.symm)
  | some l=>
   rw [hq] at a;simp only [Dt,Db,Lit.string.injEq] at a;exact Cr (Cg.1 a.1.symm)
 rw [←i]
theorem xA (w:World):Calls prog 139 #[] w fun e w'=>e=.returned (.map (some w.heap.size))∧eQ w' w.heap.size∧Below w.heap.size w w':=by
 have y:=@run_makeMap prog;have h:=World.ownsMap_made (H:=Unit) w prog 5 (plainElem (H:=Unit) prog 9);have d:=(Br w.heap.size w).alloc (o:=.map #[] 0) (Lr _);have E:=Hh h;have k:=Hh d;clear h d
 go_enter func139,ntmps139
 go_wp2_with (first
  | (refine cC _ rfl _ _ _ 165 rfl 5 9 rC underlying165 _ w.heap.size 6 _ rfl v (by unfold maxLen;omega) _ _ _ rfl rfl (keyOf_int_mk underlying5 (a:=13) (by decide)) _ [] (Dc underlying9 (s:=⟨#[114]⟩) (by decide)) ?_;intro J q A;(have m:=gI j A (j.size) (Lr _)))
  | (refine cC _ rfl _ _ _ 165 rfl 5 9 rC underlying165 _ w.heap.size 5 _ rfl D (by unfold maxLen;omega) _ _ _ rfl rfl (keyOf_int_mk underlying5 (a:=12) (by decide)) _ [] (Dc underlying9 (s:=⟨#[102]⟩) (by decide)) ?_;intro I v t;(have j:=gI b t (b.size) (Lr _)))
  | (refine cC _ rfl _ _ _ 165 rfl 5 9 rC underlying165 _ w.heap.size 4 _ rfl p (by unfold maxLen;omega) _ _ _ rfl rfl (keyOf_int_mk underlying5 (a:=10) (by decide)) _ [] (Dc underlying9 (s:=⟨#[110]⟩) (by decide)) ?_;intro L D r;(have b:=gI i r (i.size) (Lr _)))
  | (refine cC _ rfl _ _ _ 165 rfl 5 9 rC underlying165 _ w.heap.size 3 _ rfl z (by unfold maxLen;omega) _ _ _ rfl rfl (keyOf_int_mk underlying5 (a:=9) (by decide)) _ [] (Dc underlying9 (s:=⟨#[116]⟩) (by decide)) ?_;intro K p u;(have i:=gI f u (f.size) (Lr _)))
  | (refine cC _ rfl _ _ _ 165 rfl 5 9 rC underlying165 _ w.heap.size 2 _ rfl n (by unfold maxLen;omega) _ _ _ rfl rfl (keyOf_int_mk underlying5 (a:=8) (by decide)) _ [] (Dc underlying9 (s:=⟨#[98]⟩) (by decide)) ?_;intro M z x;(have f:=gI c x (c.size) (Lr _)))
  | (refine cC _ rfl _ _ _ 165 rfl 5 9 rC underlying165 _ w.heap.size 1 _ rfl l (by unfold maxLen;omega) _ _ _ rfl rfl (keyOf_int_mk underlying5 (a:=92) (by decide)) _ [] (Dc underlying9 (s:=⟨#[92]⟩) (by decide)) ?_;intro F n C;(have c:=gI g C (g.size) (Lr _)))
  | (refine cC _ rfl _ _ _ 165 rfl 5 9 rC underlying165 _ w.heap.size 0 _ rfl E.o (by unfold maxLen;omega) _ _ _ rfl rfl (keyOf_int_mk underlying5 (a:=34) (by decide)) _ [] (Dc underlying9 (s:=⟨#[34]⟩) (by decide)) ?_;intro G l B;(have g:=gI k.o B (k.o.size) (Lr _))))
 go_ret
 exact ⟨rfl,q,m⟩
end Go.Proofs.YtncdpanfefnjlaaGreatDoor