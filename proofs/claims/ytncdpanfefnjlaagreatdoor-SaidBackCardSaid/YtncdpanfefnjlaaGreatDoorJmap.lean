import Derived.Test.YtncdpanfefnjlaaGreatDoorNshape
set_option linter.unusedVariables false
set_option linter.unusedSimpArgs false
set_option maxHeartbeats 1600000
set_option maxRecDepth 100000
namespace Go.Proofs.YtncdpanfefnjlaaGreatDoor
open Go.Proofs.Tryz
open Go.Lib
theorem wE {n n' b1 b2 b3 c1 c2 c3 sz lo hi k:Nat} (h:checkN n b1 b2 b3 sz lo hi=some k) (hn:n≤n') (h1:1<k→c1=b1) (h2:2<k→c2=b2) (h3:3<k→c3=b3):checkN n' c1 c2 c3 sz lo hi=some k∧k≤n∧2≤k:=by
 unfold checkN at h ⊢
 split at h
 ·split at h
  ·cases h
  ·cases h
   rename_i e1 e2
   have:=h1 (by decide)
   rw [Am e1,Af (by omega)]
   exact ⟨rfl,by omega,by omega⟩
 ·split at h
  ·split at h
   ·cases h
   ·cases h
    rename_i e0 e1 e2
    have:=h1 (by decide)
    have:=h2 (by decide)
    rw [Af e0,Am e1,Af (by omega)]
    exact ⟨rfl,by omega,by omega⟩
  ·split at h
   ·split at h
    ·cases h
    ·cases h
     rename_i e0 e1 e2 e3
     have:=h1 (by decide)
     have:=h2 (by decide)
     have:=h3 (by decide)
     rw [Af e0,Af e1,Am e2,Af (by omega)]
     exact ⟨rfl,by omega,by omega⟩
   ·cases h
theorem qK:∀ (n:Nat) (l m:Ub),l.length≤n→validD l=true→validD (l++m)=validD m
 | n,[],m,_,_=>rfl
 | 0,b::t,m,hn,_=>by simp at hn
 | n+1,b::t,m,hn,h=>by
  by_cases hb:b.toNat<128
  ·rw [validD_cons b t hb] at h
   show validD (b::(t++m))=_
   rw [validD_cons b _ hb];exact qK n t m (by simpa using hn) h
  ·have e:=validD_lead (b::t) (by simp) (by show 128≤b.toNat;omega)
   rw [h] at e
   split at e
   ·cases e
   ·rename_i k hk
    have hg:∀i,i<(b::t).length→((b::t)++m).getD i 0=(b::t).getD i 0:=fun i hi=>by
     simp only [Ct];rw [Cq hi]
    have hkn:k≤(b::t).length:=(wE hk (Lr _) (fun _=>rfl) (fun _=>rfl) (fun _=>rfl)).2.1
    obtain ⟨q1,q2,q3⟩:=wE (n':=((b::t)++m).length) hk (by simp) (c1:=(((b::t)++m).getD 1 0).toNat) (c2:=(((b::t)++m).getD 2 0).toNat) (c3:=(((b::t)++m).getD 3 0).toNat) (fun hk=>by rw [hg 1 (by omega)]) (fun hk=>by rw [hg 2 (by omega)]) (fun hk=>by rw [hg 3 (by omega)])
    have e2:=validD_lead ((b::t)++m) (by simp) (by show 128≤b.toNat;omega)
    rw [hg 0 (by simp)] at e2
    rw [q1] at e2;rw [e2]
    show validD (((b::t)++m).drop k)=_
    rw [List.drop_append_of_le_length q2];exact qK n _ m (by rw [Cb];omega) e.symm
theorem BV {s t:Bt} (hs:validD s.data.toList=true) (ht:validD t.data.toList=true):validD (s++t).data.toList=true:=by
 have e:(s++t).data.toList=s.data.toList++t.data.toList:=by simp
 rw [e,qK _ _ _ (Lr _) hs];exact ht
def aV (s:Bt):Bool:=decide (s.size≤65536) && validD s.data.toList
end Go.Proofs.YtncdpanfefnjlaaGreatDoor
namespace Go.Proofs.YtncdpanfefnjlaaGreatDoor
open Go.Proofs.Tryz
open Go Go.Maps Go.RowKit
def inB (s:Bt) (ns:List Bt):Bool:=ns.any fun t=>decide (s=t)
theorem pJ (s:Bt) (ns:List Bt):inB s ns=true↔s ∈ ns:=by
 unfold inB;rw [List.any_eq_true]
 constructor
 ·rintro ⟨t,ht,e⟩
  rw [Ch e];exact ht
 ·exact fun h=>⟨s,h,An rfl⟩
def UV:List Bt→DataW Unit
 | []=>.map []
 | s::ns=>(UV ns).put (.string s.data.toList) (.lit (.bool true))
theorem yE:∀ns,IsMap (UV ns)
 | []=>isMap_empty
 | _::ns=>(yE ns).put _ _
theorem SD (s:Bt):∀ns,(UV ns).atKey (.string s.data.toList) (.lit (.bool false))=.lit (.bool (inB s ns))
 | []=>by
  rfl
 | t::ns=>by
  unfold UV
  by_cases h:s=t
  ·subst h
   rw [atKey_put_same (yE ns) (show WideAt.IsKeyLit (.string s.data.toList) from trivial)]
   rw [(pJ s (s::ns)).2 (by simp)]
  ·have hne:s.data.toList ≠ t.data.toList:=fun e=>h (Cp (Ce.1 e))
   rw [atKey_put_other (by intro e;simp only [Lit.string.injEq] at e;first | exact hne e | exact hne e.symm),SD s ns]
   simp [inB,h]
section
variable {P:Program} {t k e:TypeId} {w:World} {b:Nat} {ns:List Bt}
def dC (P:Program) (k e:TypeId) (w:World) (b:Nat) (ns:List Bt):Prop:=w.ownsMap P k (plainElem (H:=Unit) P e) b ns.length (UV ns)
theorem qP {H:Type} (he:P.underlying e=some .bool) {v:Value} {z:DataW H × List MemPlace} (h:plainElem P e v=some z):∃x,v=.bool x∧z=(.lit (.bool x),[]):=by
 unfold plainElem at h;rw [he] at h;cases v <;> simp at h;exact ⟨_,rfl,h.symm⟩
theorem dC.look (h:dC P k e w b ns) (K:Keyed P k) (ht:P.underlying t=some (.map k e)) (he:P.underlying e=some .bool) (hz:(zeroValue e).run P w=.ok (.bool false) w) (s:Bt) (hkey:keyOf P k (.string s)=some (.string s.data.toList)) :
 (Instr.lookup t (.map (some b)) (.string s) false).run P w=.ok (.bool (inB s ns)) w:=by
 obtain ⟨v,ps,hrun,hv⟩:=World.ownsMap.lookup h K ht hz (plainElem_bool he false) hkey;obtain ⟨x,rfl,e'⟩:=qP he hv;rw [SD] at e';simp only [Dn,Cx,Lit.bool.injEq] at e';rw [hrun,e'.1]
theorem dC.kept {w':World} {row:Option Nat} (h:dC P k e w b ns) (hg:w.grownBy w' row) (hne:some b ≠ row):dC P k e w' b ns:=Cs h hg hne
theorem dC.lt (h:dC P k e w b ns):b<w.heap.size:=World.ownsMap.lt h
theorem dC.below {w':World} (h:dC P k e w b ns) (hb:Below w.heap.size w w'):dC P k e w' b ns:=
 h.kept (row:=none) ⟨hb.os,hb.tape,hb.output,hb.size,fun i hi _=>hb.block i hi⟩ (by simp)
theorem dC.made (w:World) (P:Program) (k e:TypeId):dC P k e (w.alloc (.map #[] 0)) w.heap.size []:=World.ownsMap_made w P k _
theorem dC.put {w':World} {s:Bt} (h:w'.ownsMap P k (plainElem (H:=Unit) P e) b (ns.length+1) ((UV ns).put (.string s.data.toList) (.lit (.bool true)))):dC P k e w' b (s::ns):=h
end
end Go.Proofs.YtncdpanfefnjlaaGreatDoor
namespace Go.Proofs.YtncdpanfefnjlaaGreatDoor
open Go.Proofs.Tryz
def eQ (x:ND):Bool:=
 decide (0≤x.kind) && decide (x.kind≤5) && (!x.bool || decide (x.kind=1)) && (decide (x.num=0) || decide (x.kind=2)) && (decide (x.text=⟨#[]⟩) || decide (x.kind=3)) &&
 (decide (x.items.length=0) || decide (4≤x.kind)) && (decide (x.names.length=0) || decide (x.kind=5)) && aV x.text && decide (x.items.length≤256) && (decide (x.kind ≠ 5) || decide (x.names.length=x.items.length)) &&
 x.names.all aV && decide x.names.Nodup
def aB:Nat→ND→Bool
 | 0,_=>false
 | d+1,x=>eQ x && x.items.all (aB d)
theorem cQ (d:Nat) (x:ND):aB (d+1) x=(eQ x && x.items.all (aB d)):=rfl
theorem vJ:∀ {d d':Nat} {x:ND},d≤d'→aB d x=true→aB d' x=true
 | 0,_,_,_,h=>by cases h
 | d+1,0,_,hd,_=>by omega
 | d+1,d'+1,x,hd,h=>by
  rw [cQ,Ak,Aw] at h ⊢;exact ⟨h.1,fun y hy=>vJ (by omega) (h.2 y hy)⟩
def eL (x:ND) (s:Bt):Option ND:=
 if x.kind=5 then (x.names.findIdx? (fun t=>decide (t=s))).bind fun i=>x.items[i]? else none
def yQ (x:ND) (s:Bt) (v:ND):ND:=
 match x.names.findIdx? (fun t=>decide (t=s)) with
 | some i=>.mk x.kind x.bool x.num x.text x.names (x.items.set i v)
 | none=>.mk x.kind x.bool x.num x.text (x.names++[s]) (x.items++[v])
theorem fD {l:List Bt} {s:Bt} {i:Nat} (h:l.findIdx? (fun t=>decide (t=s))=some i):l[i]?=some s∧∀j,j<i→l[j]? ≠ some s:=by
 rw [List.findIdx?_eq_some_iff_getElem] at h;obtain ⟨hi,h1,h2⟩:=h;refine ⟨by rw [Ac hi];exact Ad some (Ch h1),fun j hj e=>?_⟩
 rw [Ac (by omega)] at e
 exact h2 j hj (An (Ab e))
theorem nE {l:List Bt} {s:Bt} (h:l.findIdx? (fun t=>decide (t=s))=none):s ∉ l:=by
 rw [List.findIdx?_eq_none_iff] at h;intro hs;have:=h s hs;simp at this
theorem lP {l:List Bt} {s:Bt} {i:Nat} (hn:l.Nodup) (h:l[i]?=some s):l.findIdx? (fun t=>decide (t=s))=some i:=by
 rw [List.findIdx?_eq_some_iff_getElem];have hi:i<l.length:=by
  rcases Cc i l.length with h' | h'
  ·exact h'
  ·rw [By h'] at h;cases h
 rw [Ac hi] at h;have h:=Ab h;refine ⟨hi,An h,fun j hj e=>?_⟩
 have e:l[j]=s:=Ch e;have:=(List.nodup_iff_pairwise_ne.1 hn);rw [List.pairwise_iff_getElem] at this;exact this j i (by omega) hi hj (e.trans h.symm)
theorem aGf {x:ND} {s:Bt} {i:Nat} {y:ND} (hk:x.kind=5) (hn:x.names.Nodup) (h1:x.names[i]?=some s) (h2:x.items[i]?=some y):eL x s=some y:=by
 unfold eL;rw [Am hk,lP hn h1];exact h2
structure cH (d:Nat) (x:ND):Prop where
 kind:x.kind=5
 bool:x.bool=false
 num:x.num=0
 text:x.text=⟨#[]⟩
 len:x.names.length=x.items.length
 most:x.items.length≤256
 texts:∀s,s ∈ x.names→aV s=true
 nodup:x.names.Nodup
 items:∀y,y ∈ x.items→aB d y=true
theorem bY {d:Nat} {x:ND} (hk:x.kind=5):aB (d+1) x=true↔cH d x:=by
 have ht:aV ⟨#[]⟩=true:=by decide
 rw [cQ];unfold eQ;simp only [Ak,Aw,hk]
 constructor
 ·rintro ⟨⟨⟨⟨⟨⟨⟨⟨⟨⟨⟨⟨-,-⟩,h1⟩,h2⟩,h3⟩,-⟩,-⟩,-⟩,h4⟩,h5⟩,h6⟩,h7⟩,h8⟩
  refine ⟨hk,?_,?_,?_,?_,?_,h6,by simpa using h7,h8⟩
  ·simpa using h1
  ·simpa using h2
  ·simpa using h3
  ·simpa using h5
  ·simpa using h4
 ·intro h
  refine ⟨⟨⟨⟨⟨⟨⟨⟨⟨⟨⟨⟨by decide,by decide⟩,?_⟩,?_⟩,?_⟩,?_⟩,?_⟩,?_⟩,?_⟩,?_⟩,h.texts⟩,by simpa using h.nodup⟩,h.items⟩
  ·simp [h.bool]
  ·simp [h.num]
  ·simp [h.text]
  ·simp
  ·simp
  ·rw [h.text];exact ht
  ·simpa using h.most
  ·simp [h.len]
theorem FZ {d:Nat} {x:ND} {s:Bt} (h:cH d x):(eL x s).isSome=true↔s ∈ x.names:=by
 have hl:=h.len;unfold eL;rw [Am h.kind]
 constructor
 ·intro e
  cases hf:x.names.findIdx? (fun t=>decide (t=s)) with
  | none=>rw [hf] at e;simp at e
  | some i=>exact Aq (fD hf).1
 ·intro hs
  cases hf:x.names.findIdx? (fun t=>decide (t=s)) with
  | none=>exact (nE hf hs).elim
  | some i=>
   have hq:=(fD hf).1;have hlt:i<x.names.length:=by
    rcases Cc i x.names.length with h' | h'
    ·exact h'
    ·rw [By h'] at hq;cases hq
   show (x.items[i]?).isSome=true
   rw [Ac (by omega)];rfl
def dD (z:Int):Bool:=decide (-9223372036854775808≤z) && decide (z≤9223372036854775807)
def aO:Nat→ND→Bool
 | 0,_=>true
 | d+1,x=>dD x.num && x.items.all (aO d)
def eF (d:Nat) (x:ND):Bool:=aB d x && aO d x
theorem dU {d:Nat} {x:ND} (h:eF d x=true):aB d x=true:=by unfold eF at h;rw [Ak] at h;exact h.1
theorem eZ {d:Nat} {x:ND} (h:eF d x=true):aO d x=true:=by unfold eF at h;rw [Ak] at h;exact h.2
theorem tO {d:Nat} {x:ND} (h:aB (d+1) x=true) (hw:dD x.num=true) (hi:∀y,y ∈ x.items→eF d y=true):eF (d+1) x=true:=by
 unfold eF aO;rw [h,hw,Bool.true_and,Bool.true_and,Aw];exact fun y hy=>eZ (hi y hy)
theorem cJ (d:Nat) (x:ND):aO (d+1) x=(dD x.num && x.items.all (aO d)):=rfl
def bG:Nat→ND→Nat
 | 0,_=>0
 | d+1,x=>24+6 * x.text.size+(x.names.map fun s=>6 * s.size+8).sum+(x.items.map fun y=>bG d y+1).sum
theorem eC (d:Nat) (x:ND):bG (d+1) x=24+6 * x.text.size+(x.names.map fun s=>6 * s.size+8).sum+(x.items.map fun y=>bG d y+1).sum:=rfl
def pR:Nat→Nat
 | 0=>259
 | d+1=>1047+3 * pR d
theorem uS (d:Nat):pR (d+1)=1047+3 * pR d:=rfl
theorem aDl:∀ {d:Nat},1≤d→1824≤pR d
 | 1,_=>by decide
 | d+2,_=>by have:=aDl (d:=d+1) (by omega);rw [uS];omega
theorem tR {α:Type} {f:α→Nat} {c:Nat}:∀ {l:List α},(∀y,y ∈ l→f y≤c)→(l.map f).sum≤c * l.length
 | [],_=>Lr _
 | a::t,h=>by
  have h1:=tR (f:=f) (c:=c) (l:=t) fun y hy=>h y (by simp [hy])
  have h2:=h a (by simp)
  rw [Bj,Cg,Ag,Nat.mul_add];omega
theorem AF:∀ {e d:Nat} {x:ND},e≤d→aB e x=true→bG d x=bG e x
 | 0,_,_,_,h=>by cases h
 | e+1,0,_,h,_=>by omega
 | e+1,d+1,x,hd,h=>by
  rw [cQ,Ak,Aw] at h;rw [eC,eC,Cr (g:=fun y=>bG e y+1) fun y hy=>by rw [AF (by omega) (h.2 y hy)]]
def fR (d:Nat) (x:ND):Bool:=eF d x && decide (bG d x≤pR d)
theorem xV {d:Nat} {x:ND} (h:fR d x=true):eF d x=true:=by unfold fR at h;rw [Ak] at h;exact h.1
theorem rR {d:Nat} {x:ND} (h:fR d x=true):aB d x=true:=dU (xV h)
theorem JB {d:Nat} {x:ND} (h:fR d x=true):bG d x≤pR d:=by unfold fR at h;rw [Ak] at h;exact Ch h.2
theorem BY {d:Nat} {x:ND} (h:eF d x=true) (hc:bG d x≤pR d):fR d x=true:=by unfold fR;rw [h,An hc];rfl
def nN (d:Nat) (its:List ND):Nat:=(its.map fun y=>bG d y+1).sum
theorem DV {d:Nat} {its:List ND} (h:∀y,y ∈ its→fR d y=true) (hl:its.length≤3):nN d its≤3 * (pR d+1):=by
 have:=tR (f:=fun y=>bG d y+1) (c:=pR d+1) (l:=its) fun y hy=>Nat.succ_le_succ (JB (h y hy))
 exact Ae this (by rw [Nat.mul_comm];exact Nat.mul_le_mul_right _ hl)
theorem QW (d:Nat) (its:List ND) (y:ND):nN d (its++[y])=nN d its+(bG d y+1):=by unfold nN;rw [Dx,List.sum_append];rfl
def dF (n:Nat):Nat→Ub
 | 0=>[]
 | k+1=>UInt8.ofNat (n / 256 ^ k)::dF n k
theorem aY (n:Nat):∀k,(dF n k).length=k
 | 0=>rfl
 | k+1=>by rw [dF,Ag,aY n k]
def fZ (l:Ub):Nat:=l.foldl (fun a c=>a * 256+c.toNat) 0
theorem aDm:∀ (l:Ub) (a:Nat),l.foldl (fun a c=>a * 256+c.toNat) a=a * 256 ^ l.length+fZ l
 | [],a=>by simp [fZ]
 | c::t,a=>by
  unfold fZ;rw [List.foldl_cons,List.foldl_cons,aDm t (a * 256+c.toNat),aDm t (0 * 256+c.toNat),Ag,Dt,Nat.zero_mul,Bv,Nat.add_mul,Nat.mul_assoc,Nat.mul_comm 256 (256 ^ t.length)];omega
theorem EA (c:UInt8) (t:Ub):fZ (c::t)=c.toNat * 256 ^ t.length+fZ t:=by
 have:=aDm t c.toNat;unfold fZ at this ⊢;rw [List.foldl_cons,Nat.zero_mul,Bv];exact this
theorem iS (n:Nat):∀k,fZ (dF n k)=n % 256 ^ k
 | 0=>by rw [Nat.pow_zero,Nat.mod_one];rfl
 | k+1=>by
  have h:n % (256 ^ k * 256)=n % 256 ^ k+256 ^ k * (n / 256 ^ k % 256):=Nat.mod_mul;rw [dF,EA,aY,iS n k,Be,show 256 ^ (k+1)=256 ^ k * 256 from Dt ..,h,Nat.mul_comm]
  show 256 ^ k * (n / 256 ^ k % 256)+_=_
  omega
theorem lD {n k:Nat} (h:n<256 ^ k):fZ (dF n k)=n:=by rw [iS,Nat.mod_eq_of_lt h]
theorem aDn {n m k:Nat} (hn:n<256 ^ k) (hm:m<256 ^ k) (h:dF n k=dF m k):n=m:=by
 rw [←lD hn,←lD hm,h]
def fN (n:Nat):Nat:=if n<24 then 0 else if n<256 then 1 else if n<65536 then 2 else if n<4294967296 then 4 else 8
def gU (n:Nat):Nat:=if n<24 then n else if n<256 then 24 else if n<65536 then 25 else if n<4294967296 then 26 else 27
def eA (m n:Nat):Ub:=UInt8.ofNat (32 * m+gU n)::dF n (fN n)
theorem kU (m n:Nat):(eA m n).length=fN n+1:=by rw [eA,Ag,aY]
theorem LJ (n:Nat):fN n≤8:=by
 unfold fN
 (repeat' split) <;> omega
theorem zQ (n:Nat):gU n<32:=by
 unfold gU
 (repeat' split) <;> omega
theorem aGd {n m:Nat} (h:gU n=gU m):fN n=fN m∧(fN n=0→n=m):=by
 unfold gU at h;unfold fN
 by_cases a1:n<24
 ·rw [Am a1] at h
  rw [Am a1]
  by_cases b1:m<24
  ·rw [Am b1] at h ⊢;exact ⟨rfl,fun _=>h⟩
  ·rw [Af b1] at h
   exfalso
   revert h
   repeat' split
   all_goals omega
 ·rw [Af a1] at h
  rw [Af a1]
  by_cases b1:m<24
  ·rw [Am b1] at h
   exfalso
   revert h
   repeat' split
   all_goals omega
  ·rw [Af b1] at h
   rw [Af b1]
   revert h
   repeat' split
   all_goals (intro h;first | (exfalso;omega) | exact ⟨rfl,fun h=>absurd h (by decide)⟩)
theorem zR {n:Nat} (h:n<18446744073709551616):fN n=0∨n<256 ^ fN n:=by
 unfold fN
 repeat' split
 all_goals first | exact .inl rfl | (right;simp only [Nat.reducePow];omega)
theorem DM {m n m' n':Nat} {t t':Ub} (hm:m<8) (hm':m'<8) (hn:n<18446744073709551616) (hn':n'<18446744073709551616) (h:eA m n++t=eA m' n'++t'):m=m'∧n=n'∧t=t':=by
 unfold eA at h;rw [Bm,Bm] at h;obtain ⟨h1,h2⟩:=List.cons.inj h;have h1:=Ad UInt8.toNat h1;rw [Be,Be] at h1;have v1:=zQ n;have v2:=zQ n';have hmm:m=m':=by omega
 have hvv:gU n=gU n':=by omega
 obtain ⟨hk,h0⟩:=aGd hvv;rw [←hk] at h2;obtain ⟨e1,e2⟩:=List.append_inj h2 (by rw [aY,aY])
 refine ⟨hmm,?_,e2⟩;rcases zR hn with h | h
 ·exact h0 h
 ·rcases zR hn' with h' | h'
  ·exact h0 (hk.trans h')
  ·rw [←hk] at h'
   exact aDn h h' e1
def fV (x:ND):Nat:=if x.kind=1 then 7 else if x.kind=2 then (if x.num<0 then 1 else 0) else if x.kind=3 then 3 else if x.kind=4 then 4 else if x.kind=5 then 5 else 7
def gG (x:ND):Nat:=if x.kind=1 then (if x.bool then 21 else 20) else if x.kind=2 then (if x.num<0 then (-1 - x.num).toNat else x.num.toNat) else if x.kind=3 then x.text.size else if x.kind=4 then x.items.length else if x.kind=5 then x.items.length else 22
def fY (s:Bt):Ub:=eA 3 s.size++s.data.toList
def bJ:Nat→ND→Ub
 | 0,_=>[]
 | d+1,x=>eA (fV x) (gG x) ++
  (if x.kind=3 then x.text.data.toList
  else if x.kind=4 then x.items.flatMap (bJ d)
  else if x.kind=5 then (List.zipWith (fun s y=>fY s++bJ d y) x.names x.items).flatten
  else [])
end Go.Proofs.YtncdpanfefnjlaaGreatDoor
namespace Go.Proofs.YtncdpanfefnjlaaGreatDoor
open Go.Proofs.Tryz
open Go.Lib
def mM (v:UInt8):UInt8:=if v<10 then 48+v else 87+v
def gE (c:UInt8):Ub:=
 if c=34∨c=92 then [92,c]
 else if c=8 then [92,98] else if c=9 then [92,116] else if c=10 then [92,110] else if c=12 then [92,102] else if c=13 then [92,114]
 else if c<32 then [92,117,48,48,mM (c / 16),mM (c % 16)] else [c]
def bH (l:Ub):Ub:=34::(l.flatMap gE++[34])
def kT (c:UInt8):Option UInt8:=if 48≤c∧c≤57 then some (c - 48) else if 97≤c∧c≤102 then some (c - 87) else none
def uO (c:UInt8):Option UInt8:=if c=34∨c=92 then some c else if c=98 then some 8 else if c=116 then some 9 else if c=110 then some 10 else if c=102 then some 12 else if c=114 then some 13 else none
def pP:Ub→Option (UInt8 × Ub)
 | 117::48::48::a::b::r=>match kT a,kT b with
  | some x,some y=>some (16 * x+y,r)
  | _,_=>none
 | c::r=>(uO c).map fun d=>(d,r)
 | []=>none
def vN:Ub→Option (Option UInt8 × Ub)
 | []=>none
 | c::r=>if c=34 then some (none,r) else if c=92 then (pP r).map fun x=>(some x.1,x.2) else some (some c,r)
theorem lK (c:UInt8) (r:Ub):vN (c::r)=if c=34 then some (none,r) else if c=92 then (pP r).map fun x=>(some x.1,x.2) else some (some c,r):=rfl
theorem aCc:∀c:UInt8,c<32→kT (mM (c / 16))=some (c / 16)∧kT (mM (c % 16))=some (c % 16)∧16 * (c / 16)+c % 16=c:=by
 have:∀n:Fin 256,(UInt8.ofNat n.1<32→kT (mM (UInt8.ofNat n.1 / 16))=some (UInt8.ofNat n.1 / 16)∧kT (mM (UInt8.ofNat n.1 % 16))=some (UInt8.ofNat n.1 % 16)∧16 * (UInt8.ofNat n.1 / 16)+UInt8.ofNat n.1 % 16=UInt8.ofNat n.1):=by decide +kernel
 intro c;have h:=this ⟨c.toNat,c.toNat_lt⟩
 rwa [show UInt8.ofNat c.toNat=c from Dj] at h
theorem VC (c:UInt8) (t:Ub):vN (gE c++t)=some (some c,t):=by
 unfold gE
 split
 ·rename_i h
  rcases h with rfl | rfl <;> rfl
 ·rename_i h0
  split
  ·rename_i h;subst h;rfl
  ·split
   ·rename_i h;subst h;rfl
   ·split
    ·rename_i h;subst h;rfl
    ·split
     ·rename_i h;subst h;rfl
     ·split
      ·rename_i h;subst h;rfl
      ·split
       ·rename_i h
        obtain ⟨h1,h2,h3⟩:=aCc c h;have he:pP (117::48::48::mM (c / 16)::mM (c % 16)::t)=some (c,t):=by
         show (match kT (mM (c / 16)),kT (mM (c % 16)) with
          | some x,some y=>some (16 * x+y,t)
          | _,_=>none)=_
         rw [h1,h2]
         show some (16 * (c / 16)+c % 16,t)=_
         rw [h3]
        show (pP (117::48::48::mM (c / 16)::mM (c % 16)::t)).map _=_
        rw [he];rfl
       ·rename_i h
        show vN (c::t)=_
        rw [lK,Af (fun e=>h0 (.inl e)),Af (fun e=>h0 (.inr e))]
theorem LS {l r:Ub} {c:UInt8} (h:pP l=some (c,r)):r <:+ l∧r.length<l.length:=by
 unfold pP at h
 split at h
 ·split at h
  ·cases h
   exact ⟨⟨_,Aj [117,48,48] [_,_] _⟩,by simp;omega⟩
  ·cases h
 ·rename_i c' r' _
  cases hc:uO c' with
  | none=>rw [hc] at h;cases h
  | some d=>rw [hc] at h;cases h;exact ⟨List.suffix_cons _ _,by simp⟩
 ·cases h
theorem sE {l r:Ub} {o:Option UInt8} (h:vN l=some (o,r)):r <:+ l∧r.length<l.length:=by
 cases l with
 | nil=>cases h
 | cons c t=>
  rw [lK] at h
  by_cases h1:c=34
  ·rw [Am h1] at h;cases h;exact ⟨List.suffix_cons _ _,by simp⟩
  ·rw [Af h1] at h
   by_cases h2:c=92
   ·rw [Am h2] at h
    cases he:pP t with
    | none=>rw [he] at h;cases h
    | some x=>
     rw [he] at h;cases h;have:=LS (c:=x.1) (r:=x.2) he;exact ⟨this.1.trans (List.suffix_cons _ _),by simp;omega⟩
   ·rw [Af h2] at h;cases h;exact ⟨List.suffix_cons _ _,by simp⟩
def jT:Nat→Ub→Option (Ub × Ub)
 | 0,_=>none
 | n+1,l=>match vN l with
  | none=>none
  | some (none,r)=>some ([],r)
  | some (some c,r)=>(jT n r).map fun x=>(c::x.1,x.2)
theorem sC:∀ (n m:Nat) (l:Ub),l.length<n→l.length<m→jT n l=jT m l
 | 0,_,_,h,_=>by omega
 | _,0,_,_,h=>by omega
 | n+1,m+1,l,hn,hm=>by
  unfold jT;cases h:vN l with
  | none=>rfl
  | some x=>
   obtain ⟨o,r⟩:=x;cases o with
   | none=>rfl
   | some c=>
    have:=(sE h).2
    show (jT n r).map _=(jT m r).map _
    rw [sC n m r (by omega) (by omega)]
def cT (l:Ub):Option (Ub × Ub):=jT (l.length+1) l
theorem iF (l:Ub):cT l=match vN l with
 | none=>none
 | some (none,r)=>some ([],r)
 | some (some c,r)=>(cT r).map fun x=>(c::x.1,x.2):=by
 unfold cT;rw [jT];cases h:vN l with
 | none=>rfl
 | some x=>
  obtain ⟨o,r⟩:=x;cases o with
  | none=>rfl
  | some c=>
   have:=(sE h).2
   show (jT l.length r).map _=(jT (r.length+1) r).map _
   rw [sC l.length (r.length+1) r (by omega) (by omega)]
theorem mU:∀ (l t:Ub),cT (l.flatMap gE++34::t)=some (l,t)
 | [],t=>by rw [iF];rfl
 | c::r,t=>by
  rw [Co,Aj,iF,VC]
  show (cT (r.flatMap gE++34::t)).map _=_
  rw [mU r t];rfl
def dV:List (Ub)→Ub
 | []=>[]
 | [a]=>a
 | a::b::t=>a++44::dV (b::t)
theorem CL:∀ (l:List (Ub)) (a:Ub),l ≠ []→dV (l++[a])=dV l++44::a
 | [],_,h=>absurd rfl h
 | [b],a,_=>rfl
 | b::c::t,a,_=>by
  show b++44::dV ((c::t)++[a])=(b++44::dV (c::t))++44::a
  rw [CL (c::t) a (by simp)];simp
def aT:Nat→ND→Ub
 | 0,_=>[]
 | d+1,x=>
  if x.kind=1 then (if x.bool then [116,114,117,101] else [102,97,108,115,101])
  else if x.kind=2 then itoa x.num
  else if x.kind=3 then bH x.text.data.toList
  else if x.kind=4 then 91::(dV (x.items.map (aT d))++[93])
  else if x.kind=5 then 123::(dV (List.zipWith (fun s y=>bH s.data.toList++58::aT d y) x.names x.items)++[125])
  else [110,117,108,108]
theorem nT:∀ {e d:Nat} {x:ND},e≤d→aB e x=true→aT d x=aT e x
 | 0,_,_,_,h=>by cases h
 | e+1,0,_,h,_=>by omega
 | e+1,d+1,x,hd,h=>by
  rw [cQ,Ak,Aw] at h;have hm:x.items.map (aT d)=x.items.map (aT e):=Cr fun y hy=>nT (by omega) (h.2 y hy)
  have hz:List.zipWith (fun s y=>bH s.data.toList++58::aT d y) x.names x.items=List.zipWith (fun s y=>bH s.data.toList++58::aT e y) x.names x.items:=by
   have:∀ (ns:List Bt) (its:List ND),(∀y,y ∈ its→aB e y=true)→List.zipWith (fun s y=>bH s.data.toList++58::aT d y) ns its=List.zipWith (fun s y=>bH s.data.toList++58::aT e y) ns its:=by
    intro ns
    induction ns with
    | nil=>intro its _;rfl
    | cons s t ih=>
     intro its hi;cases its with
     | nil=>rfl
     | cons y u=>
      rw [Bg,Bg,ih u (fun z hz=>hi z (by simp [hz])),nT (by omega) (hi y (by simp))]
   exact this _ _ h.2
  unfold aT;rw [hm,hz]
end Go.Proofs.YtncdpanfefnjlaaGreatDoor
namespace Go.Proofs.YtncdpanfefnjlaaGreatDoor
open Go.Proofs.Tryz
open Go Go.Maps Go.ChangeShapes Go.WideShapes Go.ChangeAt Go.RowKit
theorem bU {H:Type} {P:Program} (w:World) {ops:Array Oper} {rest:List Oper} {o:Oper} {a:Act} {Q:Exit→Act→World→Prop}
 (hg:o.guard=none) (m x v:Operand) (t:TypeId) (hop:o.op=Op.insert t m x v)
 (k e:TypeId) (K:Keyed P k) (ht:P.underlying t=some (.map k e)) (R:Value→Option (DataW H × List MemPlace)) (b n:Nat) (D:DataW H)
 (hm:a.eval m=.map (some b)) (hown:w.ownsMap P k R b n D) (hn:n<maxLen) (key val:Value) (kl:Lit) (hx:a.eval x=key) (hv:a.eval v=val) (hkey:keyOf P k key=some kl)
 (d:DataW H) (ps:List MemPlace) (hval:R val=some (d,ps))
 (hK:∀w',w'.ownsMap P k R b (n+1) (D.put kl d)→w.grownBy w' (some b)→wpList P ops Q rest (a.put o.dst undef) w') :
 wpList P ops Q (o::rest) a w:=by
 refine wpList_plain hg fun K' hK'=>?_
 obtain ⟨w',hrun,r1,r2⟩:=hown.update K ht hn hkey hval;unfold Oper.wp;simp [execOp,hop,hm,hx,hv,hrun,Result.andThen];exact hK' _ _ (hK w' r1 r2)
theorem iA {D:DataW Unit} (hD:IsMap D) (q:IntKind) (c l:Int) (d:DataW Unit):Maps.has (D.put (.int q c) d) (.int q l)=(decide (l=c) || Maps.has D (.int q l)):=by
 by_cases h:l=c
 ·subst h;rw [has_put_same hD (show WideAt.IsKeyLit (.int q l) from trivial),An rfl];rfl
 ·rw [has_put_other (by intro e;cases e;exact h rfl),Ap h];rfl
theorem jU {D:DataW Unit} (hD:IsMap D) (q:IntKind) (c l:Int) (d z:DataW Unit):(D.put (.int q c) d).atKey (.int q l) z=if l=c then d else D.atKey (.int q l) z:=by
 by_cases h:l=c
 ·subst h;rw [atKey_put_same hD (show WideAt.IsKeyLit (.int q l) from trivial),Am rfl]
 ·rw [atKey_put_other (by intro e;cases e;exact h rfl),Af h]
theorem oD {D:DataW Unit} (hD:IsMap D) (c l:Ub) (d:DataW Unit):Maps.has (D.put (.string c) d) (.string l)=(decide (l=c) || Maps.has D (.string l)):=by
 by_cases h:l=c
 ·subst h;rw [has_put_same hD (show WideAt.IsKeyLit (.string l) from trivial),An rfl];rfl
 ·rw [has_put_other (by intro e;cases e;exact h rfl),Ap h];rfl
theorem sF {D:DataW Unit} (hD:IsMap D) (c l:Ub) (d z:DataW Unit):(D.put (.string c) d).atKey (.string l) z=if l=c then d else D.atKey (.string l) z:=by
 by_cases h:l=c
 ·subst h;rw [atKey_put_same hD (show WideAt.IsKeyLit (.string l) from trivial),Am rfl]
 ·rw [atKey_put_other (by intro e;cases e;exact h rfl),Af h]
def oI:DataW Unit:=((((((((DataW.map []).put (.int .u8 34) (.lit (.string [34]))).put (.int .u8 92) (.lit (.string [92]))).put (.int .u8 8) (.lit (.string [98]))).put (.int .u8 9) (.lit (.string [116]))).put (.int .u8 10) (.lit (.string [110]))).put (.int .u8 12) (.lit (.string [102]))).put (.int .u8 13) (.lit (.string [114])))
def kH (c:Int):Option UInt8:=if c=34 then some 34 else if c=92 then some 92 else if c=8 then some 98 else if c=9 then some 116 else if c=10 then some 110 else if c=12 then some 102 else if c=13 then some 114 else none
theorem kP (c:Int):Maps.has oI (.int .u8 c)=(kH c).isSome∧∀z,oI.atKey (.int .u8 c) z=match kH c with | some l=>.lit (.string [l]) | none=>z:=by
 have i0:IsMap (.map []:DataW Unit):=isMap_empty;have i1:=i0.put (.int .u8 34) (.lit (.string [34]));have i2:=i1.put (.int .u8 92) (.lit (.string [92]));have i3:=i2.put (.int .u8 8) (.lit (.string [98]));have i4:=i3.put (.int .u8 9) (.lit (.string [116]));have i5:=i4.put (.int .u8 10) (.lit (.string [110]));have i6:=i5.put (.int .u8 12) (.lit (.string [102]));unfold oI;refine ⟨?_,fun z=>?_⟩
 ·rw [iA i6,iA i5,iA i4,iA i3,iA i2,iA i1,iA i0,show Maps.has (.map []:DataW Unit) (.int .u8 c)=false from rfl]
  unfold kH
  by_cases h1:c=13
  ·subst h1;rfl
  by_cases h2:c=12
  ·subst h2;rfl
  by_cases h3:c=10
  ·subst h3;rfl
  by_cases h4:c=9
  ·subst h4;rfl
  by_cases h5:c=8
  ·subst h5;rfl
  by_cases h6:c=92
  ·subst h6;rfl
  by_cases h7:c=34
  ·subst h7;rfl
  simp [h1,h2,h3,h4,h5,h6,h7]
 ·rw [jU i6,jU i5,jU i4,jU i3,jU i2,jU i1,jU i0,show (.map []:DataW Unit).atKey (.int .u8 c) z=z from rfl]
  unfold kH
  by_cases h1:c=13
  ·subst h1;rfl
  by_cases h2:c=12
  ·subst h2;rfl
  by_cases h3:c=10
  ·subst h3;rfl
  by_cases h4:c=9
  ·subst h4;rfl
  by_cases h5:c=8
  ·subst h5;rfl
  by_cases h6:c=92
  ·subst h6;rfl
  by_cases h7:c=34
  ·subst h7;rfl
  simp [h1,h2,h3,h4,h5,h6,h7]
theorem qB:Keyed prog 5:=int_keyed underlying5
theorem YU (w:World):(zeroValue 9).run prog w=.ok (.string ⟨#[]⟩) w:=by kernel_rfl
def eB (w:World) (m:Nat):Prop:=w.ownsMap prog 5 (plainElem (H:=Unit) prog 9) m 7 oI
theorem eB.kept {w w':World} {m:Nat} {row:Option Nat} (h:eB w m) (hg:w.grownBy w' row) (hne:some m ≠ row):eB w' m:=Cs h hg hne
theorem eB.below {w w':World} {m:Nat} (h:eB w m) (hb:Below w.heap.size w w'):eB w' m:=h.kept (aK hb (Lr _) none) (by simp)
theorem eB.same {w w':World} {m:Nat} (h:eB w m) (hb:w'.heap[m]?=w.heap[m]?):eB w' m:=by
 obtain ⟨es,clock,h1,F,hs,hD⟩:=h;exact ⟨es,clock,hb.trans h1,F,hs,hD⟩
theorem eB.lt {w:World} {m:Nat} (h:eB w m):m<w.heap.size:=World.ownsMap.lt h
theorem eB.look {w:World} {m:Nat} (h:eB w m) {c:Int} (hc:0≤c) (hc2:c≤255):(Instr.lookup 165 (.map (some m)) (.int .u8 c) true).run prog w=.ok (.tuple #[.string (match kH c with | some l=>⟨#[l]⟩ | none=>⟨#[]⟩),.bool (kH c).isSome]) w:=by
 have hwf:(Lit.int IntKind.u8 c).wf=true:=by simp [Lit.wf,IntKind.min,IntKind.max,IntKind.signed,IntKind.bits];omega
 obtain ⟨v,ps,hrun,hv⟩:=World.ownsMap.look_ok h qB underlying165 (YU w) (Cy underlying9 (by decide)) (keyOf_int_mk underlying5 hwf)
 obtain ⟨s,rfl,e',_⟩:=plainElem_string_inv underlying9 hv;obtain ⟨l1,l2⟩:=kP c;rw [hrun,l1];rw [l2] at e';have hs:s=(match kH c with | some l=>⟨#[l]⟩ | none=>⟨#[]⟩):=by
  cases hq:kH c with
  | none=>
   rw [hq] at e';simp only [Dn,Cx,Lit.string.injEq] at e';exact Cp (Ce.1 e'.1.symm)
  | some l=>
   rw [hq] at e';simp only [Dn,Cx,Lit.string.injEq] at e';exact Cp (Ce.1 e'.1.symm)
 rw [←hs]
theorem vU (w:World):Calls prog 139 #[] w fun e w'=>e=.returned (.map (some w.heap.size))∧eB w' w.heap.size∧Below w.heap.size w w':=by
 have hmm:=@run_makeMap prog;have h0:=World.ownsMap_made (H:=Unit) w prog 5 (plainElem (H:=Unit) prog 9);have b0:=(Br w.heap.size w).alloc (o:=.map #[] 0) (Lr _);have H0:=Hh h0;have B0:=Hh b0;clear h0 b0
 go_enter func139,ntmps139
 go_wp2_with (first
  | (refine bU _ rfl _ _ _ 165 rfl 5 9 qB underlying165 _ w.heap.size 6 _ rfl h6 (by unfold maxLen;omega) _ _ _ rfl rfl (keyOf_int_mk underlying5 (a:=13) (by decide)) _ [] (Cy underlying9 (s:=⟨#[114]⟩) (by decide)) ?_;intro w7 h7 g7;(have b7:=fU b6 g7 (b6.size) (Lr _)))
  | (refine bU _ rfl _ _ _ 165 rfl 5 9 qB underlying165 _ w.heap.size 5 _ rfl h5 (by unfold maxLen;omega) _ _ _ rfl rfl (keyOf_int_mk underlying5 (a:=12) (by decide)) _ [] (Cy underlying9 (s:=⟨#[102]⟩) (by decide)) ?_;intro w6 h6 g6;(have b6:=fU b5 g6 (b5.size) (Lr _)))
  | (refine bU _ rfl _ _ _ 165 rfl 5 9 qB underlying165 _ w.heap.size 4 _ rfl h4 (by unfold maxLen;omega) _ _ _ rfl rfl (keyOf_int_mk underlying5 (a:=10) (by decide)) _ [] (Cy underlying9 (s:=⟨#[110]⟩) (by decide)) ?_;intro w5 h5 g5;(have b5:=fU b4 g5 (b4.size) (Lr _)))
  | (refine bU _ rfl _ _ _ 165 rfl 5 9 qB underlying165 _ w.heap.size 3 _ rfl h3 (by unfold maxLen;omega) _ _ _ rfl rfl (keyOf_int_mk underlying5 (a:=9) (by decide)) _ [] (Cy underlying9 (s:=⟨#[116]⟩) (by decide)) ?_;intro w4 h4 g4;(have b4:=fU b3 g4 (b3.size) (Lr _)))
  | (refine bU _ rfl _ _ _ 165 rfl 5 9 qB underlying165 _ w.heap.size 2 _ rfl h2 (by unfold maxLen;omega) _ _ _ rfl rfl (keyOf_int_mk underlying5 (a:=8) (by decide)) _ [] (Cy underlying9 (s:=⟨#[98]⟩) (by decide)) ?_;intro w3 h3 g3;(have b3:=fU b2 g3 (b2.size) (Lr _)))
  | (refine bU _ rfl _ _ _ 165 rfl 5 9 qB underlying165 _ w.heap.size 1 _ rfl h1 (by unfold maxLen;omega) _ _ _ rfl rfl (keyOf_int_mk underlying5 (a:=92) (by decide)) _ [] (Cy underlying9 (s:=⟨#[92]⟩) (by decide)) ?_;intro w2 h2 g2;(have b2:=fU b1 g2 (b1.size) (Lr _)))
  | (refine bU _ rfl _ _ _ 165 rfl 5 9 qB underlying165 _ w.heap.size 0 _ rfl H0.o (by unfold maxLen;omega) _ _ _ rfl rfl (keyOf_int_mk underlying5 (a:=34) (by decide)) _ [] (Cy underlying9 (s:=⟨#[34]⟩) (by decide)) ?_;intro w1 h1 g1;(have b1:=fU B0.o g1 (B0.o.size) (Lr _))))
 go_ret
 exact ⟨rfl,h7,b7⟩
end Go.Proofs.YtncdpanfefnjlaaGreatDoor