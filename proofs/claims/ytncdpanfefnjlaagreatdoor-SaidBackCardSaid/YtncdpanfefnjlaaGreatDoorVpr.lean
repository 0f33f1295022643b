import Derived.Test.YtncdpanfefnjlaaGreatDoorJmap
import Derived.Test.YtncdpanfefnjlaaGreatDoorPlan
set_option linter.unusedVariables false
set_option linter.unusedSimpArgs false
set_option maxHeartbeats 3200000
set_option maxRecDepth 100000
namespace Go.Proofs.YtncdpanfefnjlaaGreatDoor
open Go.Proofs.Tryz
open Go
structure VD where
 p:Bt
 a:Int
 b:Int
 f:Int
 z:Int
def v0:VD:=⟨⟨#[]⟩,0,0,0,0⟩
def uR (l:Ub):Bool:=decide (l.length=4) && l.all fun c=>decide (65≤c.toNat) && decide (c.toNat≤90)
def inR (z m:Int):Bool:=decide (0≤z) && decide (z≤m)
def aU (v:VD):Bool:=uR v.p.data.toList && (inR v.f 3 && !decide (v.f=0)) && inR v.a 15 && inR v.b 15 && inR v.z 16777215
def vhC (n:Nat):UInt8:=if n<10 then UInt8.ofNat (48+n) else UInt8.ofNat (87+n)
def vhL:Nat→Nat→Ub
 | 0,_=>[]
 | k+1,n=>vhL k (n / 16)++[vhC (n % 16)]
def vhD (c:UInt8):Option Nat:=if 48≤c.toNat∧c.toNat≤57 then some (c.toNat - 48) else if 97≤c.toNat∧c.toNat≤102 then some (c.toNat - 87) else none
def vhN (l:Ub):Option Nat:=l.foldl (fun o c=>o.bind fun n=>(vhD c).map fun d=>16 * n+d) (some 0)
theorem dG:∀k n,(vhL k n).length=k
 | 0,_=>rfl
 | k+1,n=>by rw [vhL,Lg,dG k];rfl
theorem xS (l:Ub) (c:UInt8):vhN (l++[c])=(vhN l).bind fun n=>(vhD c).map fun d=>16 * n+d:=by unfold vhN;rw [List.foldl_append];rfl
theorem aJb (n:Nat) (h:n<16):vhD (vhC n)=some n:=by
 have:∀n:Fin 16,vhD (vhC n.1)=some n.1:=by decide
 exact this ⟨n,h⟩
theorem aJc {c:UInt8} {n:Nat} (h:vhD c=some n):vhC n=c∧n<16:=by
 have:∀k:Fin 256,∀n,vhD (UInt8.ofNat k.1)=some n→vhC n=UInt8.ofNat k.1∧n<16:=by
  have key:∀k:Fin 256,(match vhD (UInt8.ofNat k.1) with | some n=>decide (vhC n=UInt8.ofNat k.1∧n<16) | none=>true)=true:=by decide +kernel
  intro k n h;have:=key k;rw [h] at this;exact Ch this
 have hc:=this ⟨c.toNat,c.toNat_lt⟩ n;rw [show UInt8.ofNat c.toNat=c from Dj] at hc
 exact hc h
theorem xT:∀k n,n<16 ^ k→vhN (vhL k n)=some n
 | 0,n,h=>by
  have:n=0:=by simpa using h
  subst this;rfl
 | k+1,n,h=>by
  rw [vhL,xS,xT k (n / 16) (by rw [Dt] at h;omega),aJb _ (Nat.mod_lt _ (by decide))]
  show some (16 * (n / 16)+n % 16)=_
  congr 1;omega
theorem RX:∀ (k:Nat) (l:Ub) (n:Nat),l.length=k→vhN l=some n→vhL k n=l∧n<16 ^ k
 | 0,l,n,hl,h=>by
  rw [Au.1 hl] at h ⊢;cases h;exact ⟨rfl,by decide⟩
 | k+1,l,n,hl,h=>by
  have hne:l ≠ []:=by intro e;subst e;cases hl
  rw [←List.dropLast_concat_getLast hne] at h ⊢;have hdl:l.dropLast.length=k:=by rw [List.length_dropLast];omega
  generalize l.dropLast=t at h hdl ⊢;generalize l.getLast hne=c at h ⊢;rw [xS] at h;cases ht:vhN t with
  | none=>rw [ht] at h;cases h
  | some m=>
   cases hd:vhD c with
   | none=>rw [ht,hd] at h;cases h
   | some d=>
    rw [ht,hd] at h;have h:16 * m+d=n:=Ab h;obtain ⟨ih1,ih2⟩:=RX k t m hdl ht;obtain ⟨hc,hd16⟩:=aJc hd;subst h;refine ⟨?_,by rw [Dt];omega⟩
    rw [vhL,show (16 * m+d) / 16=m by omega,show (16 * m+d) % 16=d by omega,ih1,hc]
def jD (f:Int):Ub:=if f=1 then [74,83,79,78] else if f=2 then [67,66,79,82] else if f=3 then [77,71,80,75] else []
def jC (l:Ub):Int:=if l=[74,83,79,78] then 1 else if l=[67,66,79,82] then 2 else if l=[77,71,80,75] then 3 else 0
def fH (v:VD):Ub:=v.p.data.toList++(vhL 1 v.a.toNat++(vhL 1 v.b.toNat++(jD v.f++(vhL 6 v.z.toNat++[95]))))
def vtS (v:VD):Bt:=if aU v then ⟨(fH v).toArray⟩ else ⟨#[]⟩
def vtE (v:VD):Int:=if aU v then 0 else 2
def eO (l:Ub):Option VD:=
 if l.length=17 then
  match vhN ((l.drop 4).take 1),vhN ((l.drop 5).take 1),vhN ((l.drop 10).take 6) with
  | some a,some b,some z=>if aU ⟨⟨(l.take 4).toArray⟩,a,b,jC ((l.drop 6).take 4),z⟩∧l.drop 16=[95] then some ⟨⟨(l.take 4).toArray⟩,a,b,jC ((l.drop 6).take 4),z⟩ else none
  | _,_,_=>none
 else none
def pvV (l:Ub):VD:=(eO l).getD v0
def pvE (l:Ub):Int:=if (eO l).isSome then 0 else 10
theorem dA {v:VD} (h:aU v=true):v.p.data.toList.length=4∧(v.f=1∨v.f=2∨v.f=3)∧(0≤v.a∧v.a≤15)∧(0≤v.b∧v.b≤15)∧0≤v.z∧v.z≤16777215:=by
 unfold aU uR inR at h;simp only [Ak,Av,Bool.not_eq_true',decide_eq_false_iff_not] at h;obtain ⟨⟨⟨⟨⟨h1,h2⟩,h3⟩,h4⟩,h5⟩,h6⟩:=h;exact ⟨h1,by omega,h4,h5,h6⟩
theorem EZ {P A B F Z E:Ub} (hP:P.length=4) (hA:A.length=1) (hB:B.length=1) (hF:F.length=4) (hZ:Z.length=6) (hE:E.length=1) :
 (P++(A++(B++(F++(Z++E))))).length=17∧(P++(A++(B++(F++(Z++E))))).take 4=P∧((P++(A++(B++(F++(Z++E))))).drop 4).take 1=A∧((P++(A++(B++(F++(Z++E))))).drop 5).take 1=B∧((P++(A++(B++(F++(Z++E))))).drop 6).take 4=F∧((P++(A++(B++(F++(Z++E))))).drop 10).take 6=Z∧(P++(A++(B++(F++(Z++E))))).drop 16=E:=by
 refine ⟨by simp only [Lg];omega,?_,?_,?_,?_,?_,?_⟩ <;>
  simp [List.take_append,List.drop_append,hP,hA,hB,hF,hZ,hE,Ao,List.drop_eq_nil_of_le]
theorem jP {f:Int} (h:f=1∨f=2∨f=3):(jD f).length=4∧jC (jD f)=f:=by rcases h with rfl | rfl | rfl <;> decide
theorem fS {v:VD} (h:aU v=true):(fH v).length=17:=by
 obtain ⟨h1,h2,h3,h4,h5⟩:=dA h;exact (EZ h1 (dG 1 _) (dG 1 _) (jP h2).1 (dG 6 _) rfl).1
theorem yX {v:VD} (h:aU v=true):eO (fH v)=some v:=by
 obtain ⟨h1,h2,h3,h4,h5⟩:=dA h;obtain ⟨q0,q1,q2,q3,q4,q5,q6⟩:=EZ h1 (dG 1 v.a.toNat) (dG 1 v.b.toNat) (jP h2).1 (dG 6 v.z.toNat) (E:=[95]) rfl;have e:(⟨⟨v.p.data.toList.toArray⟩,(v.a.toNat:Int),(v.b.toNat:Int),v.f,(v.z.toNat:Int)⟩:VD)=v:=by
  obtain ⟨⟨⟨p⟩⟩,a,b,f,z⟩:=v;simp only at h3 h4 h5 ⊢;rw [Int.toNat_of_nonneg h3.1,Int.toNat_of_nonneg h4.1,Int.toNat_of_nonneg h5.1]
 unfold eO;rw [Am (show (fH v).length=17 from q0)]
 unfold fH at *;rw [q1,q2,q3,q4,q5,q6,xT 1 _ (by omega),xT 1 _ (by omega),xT 6 _ (by omega),(jP h2).2]
 show (if _ then _ else _)=_
 rw [e,Am ⟨h,rfl⟩]
theorem tW {l:Ub} {v:VD} (h:eO l=some v):aU v=true∧fH v=l:=by
 unfold eO at h
 split at h
 ·rename_i hl
  split at h
  ·rename_i a b z ha hb hz
   split at h
   ·rename_i hv
    cases h;refine ⟨hv.1,?_⟩;obtain ⟨h1,h2,h3,h4,h5⟩:=dA hv.1;have e1:=(RX 1 _ _ (by simp;omega) ha).1
    have e2:=(RX 1 _ _ (by simp;omega) hb).1
    have e3:=(RX 6 _ _ (by simp;omega) hz).1
    have e4:jD (jC ((l.drop 6).take 4))=(l.drop 6).take 4:=by
     have h2:jC ((l.drop 6).take 4)=1∨jC ((l.drop 6).take 4)=2∨jC ((l.drop 6).take 4)=3:=h2;generalize (l.drop 6).take 4=x at h2 ⊢;unfold jC at h2 ⊢
     split at h2
     ·rename_i e;rw [Am e,e];rfl
     ·rename_i e1;rw [Af e1];split at h2
      ·rename_i e;rw [Am e,e];rfl
      ·rename_i e2;rw [Af e2];split at h2
       ·rename_i e;rw [Am e,e];rfl
       ·omega
    show l.take 4++(vhL 1 ((a:Int).toNat)++(vhL 1 ((b:Int).toNat)++(jD (jC ((l.drop 6).take 4))++(vhL 6 ((z:Int).toNat)++[95]))))=l
    rw [Int.toNat_natCast,Int.toNat_natCast,Int.toNat_natCast,e1,e2,e3,e4,←hv.2];have d5:(l.drop 10).take 6++l.drop 16=l.drop 10:=by rw [show l.drop 16=(l.drop 10).drop 6 by rw [List.drop_drop],Dh]
    have d4:(l.drop 6).take 4++l.drop 10=l.drop 6:=by rw [show l.drop 10=(l.drop 6).drop 4 by rw [List.drop_drop],Dh]
    have d3:(l.drop 5).take 1++l.drop 6=l.drop 5:=by rw [show l.drop 6=(l.drop 5).drop 1 by rw [List.drop_drop],Dh]
    have d2:(l.drop 4).take 1++l.drop 5=l.drop 4:=by rw [show l.drop 5=(l.drop 4).drop 1 by rw [List.drop_drop],Dh]
    rw [d5,d4,d3,d2,Dh]
   ·cases h
  ·cases h
 ·cases h
theorem CZ {l:Ub} {v:VD}:eO l=some v↔aU v=true∧fH v=l:=
 ⟨tW,fun h=>h.2 ▸ yX h.1⟩
def dZ (l:Ub):Nat→Nat→Option (VD × Nat)
 | 0,_=>none
 | n+1,i=>if i+17≤l.length then match eO ((l.drop i).take 17) with
  | some v=>some (v,i)
  | none=>dZ l n (i+1)
  else none
def fdV (l:Ub):VD:=match dZ l 25 0 with | some x=>x.1 | none=>v0
def fdP (l:Ub):Int:=match dZ l 25 0 with | some x=>(x.2:Int) | none=>0
def fdE (l:Ub):Int:=if (dZ l 25 0).isSome then 0 else 10
theorem zW (l:Ub):∀ (k n i:Nat),(∀j,i≤j→j<i+k→eO ((l.drop j).take 17)=none)→i+k+17≤l.length→dZ l (k+n) i=dZ l n (i+k)
 | 0,n,i,_,_=>by rw [Bv,Nat.add_zero]
 | k+1,n,i,h,hl=>by
  rw [show k+1+n=(k+n)+1 by omega,dZ,Am (by omega),h i (Lr _) (by omega)]
  rw [show i+(k+1)=i+1+k by omega]
  exact zW l k n (i+1) (fun j h1 h2=>h j (by omega) (by omega)) (by omega)
theorem VL {l:Ub} (h:uR (l.take 4)=false):eO l=none:=by
 cases hp:eO l with
 | none=>rfl
 | some v=>
  obtain ⟨h1,h2⟩:=tW hp;have h4:=(dA h1).1;have:v.p.data.toList=l.take 4:=by rw [←h2];unfold fH;rw [List.take_append_of_le_length (by omega),Ao (by omega)]
  unfold aU at h1;rw [this,h] at h1;cases h1
end Go.Proofs.YtncdpanfefnjlaaGreatDoor
namespace Go.Proofs.YtncdpanfefnjlaaGreatDoor
open Go.Proofs.Tryz
open Go Go.Maps Go.ChangeShapes Go.WideShapes Go.ChangeAt Go.RowKit
def fmD:DataW Unit:=(((DataW.map []).put (.int .i64 1) (.lit (.string [74,83,79,78]))).put (.int .i64 2) (.lit (.string [67,66,79,82]))).put (.int .i64 3) (.lit (.string [77,71,80,75]))
def wO (f:Int):Bool:=inR f 3 && !decide (f=0)
theorem lN (f:Int):(wO f=true∧(f=1∨f=2∨f=3))∨(wO f=false∧f ≠ 1∧f ≠ 2∧f ≠ 3∧jD f=[]):=by
 unfold wO inR
 by_cases h1:f=1
 ·subst h1;exact .inl ⟨rfl,by decide⟩
 by_cases h2:f=2
 ·subst h2;exact .inl ⟨rfl,by decide⟩
 by_cases h3:f=3
 ·subst h3;exact .inl ⟨rfl,by decide⟩
 refine .inr ⟨?_,h1,h2,h3,by unfold jD;rw [Af h1,Af h2,Af h3]⟩
 cases e:decide (f=0)
 ·have:=of_decide_eq_false e
  by_cases h0:0≤f
  ·rw [An h0,Ap (by omega)];rfl
  ·rw [Ap h0];rfl
 ·rw [Bool.not_true,Bool.and_false]
theorem wZ (f:Int):Maps.has fmD (.int .i64 f)=wO f∧∀z,fmD.atKey (.int .i64 f) z=if wO f then .lit (.string (jD f)) else z:=by
 have i0:IsMap (.map []:DataW Unit):=isMap_empty;have i1:=i0.put (.int .i64 1) (.lit (.string [74,83,79,78]));have i2:=i1.put (.int .i64 2) (.lit (.string [67,66,79,82]));unfold fmD;refine ⟨?_,fun z=>?_⟩
 ·rw [iA i2,iA i1,iA i0,show Maps.has (.map []:DataW Unit) (.int .i64 f)=false from rfl]
  rcases lN f with ⟨h,rfl | rfl | rfl⟩ | ⟨h,h1,h2,h3,-⟩
  ·rfl
  ·rfl
  ·rfl
  ·rw [h,Ap h1,Ap h2,Ap h3];rfl
 ·rw [jU i2,jU i1,jU i0,show (.map []:DataW Unit).atKey (.int .i64 f) z=z from rfl]
  rcases lN f with ⟨h,rfl | rfl | rfl⟩ | ⟨h,h1,h2,h3,-⟩
  ·rfl
  ·rfl
  ·rfl
  ·rw [h,Af h1,Af h2,Af h3];rfl
theorem qW:Keyed prog 3:=int_keyed underlying3
theorem IL (w:World):(zeroValue 9).run prog w=.ok (.string ⟨#[]⟩) w:=by kernel_rfl
def gY (w:World) (m:Nat):Prop:=w.ownsMap prog 3 (plainElem (H:=Unit) prog 9) m 3 fmD
theorem gY.kept {w w':World} {m:Nat} {row:Option Nat} (h:gY w m) (hg:w.grownBy w' row) (hne:some m ≠ row):gY w' m:=Cs h hg hne
theorem gY.below {w w':World} {m:Nat} (h:gY w m) (hb:Below w.heap.size w w'):gY w' m:=h.kept (aK hb (Lr _) none) (by simp)
theorem gY.lt {w:World} {m:Nat} (h:gY w m):m<w.heap.size:=World.ownsMap.lt h
theorem gY.look {w:World} {m:Nat} (h:gY w m) {f:Int} (hf:-9223372036854775808≤f) (hf2:f≤9223372036854775807):(∃v ps,(Instr.lookup 112 (.map (some m)) (.int .i64 f) true).run prog w=.ok (.tuple #[v,.bool (Maps.has fmD (.int .i64 f))]) w∧plainElem (H:=Unit) prog 9 v=some (fmD.atKey (.int .i64 f) (.lit (.string [])),ps)):=by
 have hwf:(Lit.int IntKind.i64 f).wf=true:=by simp [Lit.wf,IntKind.min,IntKind.max,IntKind.signed,IntKind.bits];omega
 exact World.ownsMap.look_ok h qW underlying112 (IL w) (Cy underlying9 (by decide)) (keyOf_int_mk underlying3 hwf)
theorem aCj {f:Int} {v:Value} {ps:List MemPlace} (hv:plainElem (H:=Unit) prog 9 v=some (fmD.atKey (.int .i64 f) (.lit (.string [])),ps)):v=.string ⟨(jD f).toArray⟩:=by
 obtain ⟨s,rfl,e',_⟩:=plainElem_string_inv underlying9 hv;rw [(wZ f).2] at e';have hs:s=⟨(jD f).toArray⟩:=by
  rcases lN f with ⟨hq,-⟩ | ⟨hq,-,-,-,h0⟩
  ·rw [hq,Am rfl] at e'
   simp only [Dn,Cx,Lit.string.injEq] at e';exact Cp (Ce.1 e'.1.symm)
  ·rw [hq,Af (by decide)] at e'
   simp only [Dn,Cx,Lit.string.injEq] at e';rw [h0];exact Cp (Ce.1 e'.1.symm)
 rw [hs]
theorem gY.look2 {w:World} {m:Nat} (h:gY w m) {f:Int} (hf:-9223372036854775808≤f) (hf2:f≤9223372036854775807):(Instr.lookup 112 (.map (some m)) (Iz f) true).run prog w=.ok (.tuple #[.string ⟨(jD f).toArray⟩,.bool (wO f)]) w:=by
 obtain ⟨v,ps,hrun,hv⟩:=h.look hf hf2;rw [hrun,aCj hv,(wZ f).1]
theorem gY.look1 {w:World} {m:Nat} (h:gY w m) {f:Int} (hf:-9223372036854775808≤f) (hf2:f≤9223372036854775807):(Instr.lookup 112 (.map (some m)) (Iz f) false).run prog w=.ok (.string ⟨(jD f).toArray⟩) w:=by
 have hwf:(Lit.int IntKind.i64 f).wf=true:=by simp [Lit.wf,IntKind.min,IntKind.max,IntKind.signed,IntKind.bits];omega
 obtain ⟨v,ps,hrun,hv⟩:=World.ownsMap.lookup h qW underlying112 (IL w) (Cy underlying9 (by decide)) (keyOf_int_mk underlying3 hwf)
 rw [hrun,aCj hv]
theorem qZ (w:World):Calls prog 74 #[] w fun e w'=>e=.returned (.map (some w.heap.size))∧gY w' w.heap.size∧Below w.heap.size w w':=by
 have hmm:=@run_makeMap prog;have h0:=World.ownsMap_made (H:=Unit) w prog 3 (plainElem (H:=Unit) prog 9);have b0:=(Br w.heap.size w).alloc (o:=.map #[] 0) (Lr _);have H0:=Hh h0;have B0:=Hh b0;clear h0 b0
 go_enter func74,ntmps74
 go_wp2_with (first
  | (refine bU _ rfl _ _ _ 112 rfl 3 9 qW underlying112 _ w.heap.size 2 _ rfl h2 (by unfold maxLen;omega) _ _ _ rfl rfl (keyOf_int_mk underlying3 (a:=3) (by decide)) _ [] (Cy underlying9 (s:=⟨#[77,71,80,75]⟩) (by decide)) ?_;intro w3 h3 g3;(have b3:=fU b2 g3 (b2.size) (Lr _)))
  | (refine bU _ rfl _ _ _ 112 rfl 3 9 qW underlying112 _ w.heap.size 1 _ rfl h1 (by unfold maxLen;omega) _ _ _ rfl rfl (keyOf_int_mk underlying3 (a:=2) (by decide)) _ [] (Cy underlying9 (s:=⟨#[67,66,79,82]⟩) (by decide)) ?_;intro w2 h2 g2;(have b2:=fU b1 g2 (b1.size) (Lr _)))
  | (refine bU _ rfl _ _ _ 112 rfl 3 9 qW underlying112 _ w.heap.size 0 _ rfl H0.o (by unfold maxLen;omega) _ _ _ rfl rfl (keyOf_int_mk underlying3 (a:=1) (by decide)) _ [] (Cy underlying9 (s:=⟨#[74,83,79,78]⟩) (by decide)) ?_;intro w1 h1 g1;(have b1:=fU B0.o g1 (B0.o.size) (Lr _))))
 go_ret
 exact ⟨rfl,h3,b3⟩
def aKr (l:Ub) (left:Lit→Bool):Prop:=∀f:Int,wO f=true→left (.int .i64 f)=false→jD f ≠ l
theorem XR {f:Int} {l:Ub} (h:wO f=true) (e:jD f=l):jC l=f:=by
 rcases lN f with ⟨-,h'⟩ | ⟨h',-⟩
 ·rw [←e];exact (jP h').2
 ·rw [h] at h';cases h'
theorem QJ {l:Ub} (h:∀f:Int,wO f=true→jD f ≠ l):jC l=0:=by
 unfold jC;rw [Af (fun e=>h 1 rfl e.symm),Af (fun e=>h 2 rfl e.symm),Af (fun e=>h 3 rfl e.symm)]
theorem aGg (s:Bt) (w:World):Calls prog 86 #[.string s] w fun e w'=>e=.returned (Iz (jC s.data.toList))∧Below w.heap.size w w':=by
 have FN:=Hh (qZ w);obtain ⟨m,hm⟩:∃m,m=w.heap.size:=⟨_,rfl⟩;rw [←hm] at FN;have HM:=Hh hm;clear hm
 go_enter func86,ntmps86
 go_upto_region 2 with (first
  | (go_at_call 74;(with_reducible refine (FN.o).mono ?_);rintro e w2 ⟨rfl,hl2,hb2⟩)
  | (at_range;refine wpList_range_own _ rfl _ 112 rfl 3 9 qW underlying112 _ _ 3 _ rfl hl2 ?_;intro w3 hrg0 hg0 hs0)
  | go_in)
 go_frame
 have hm:=HM.o;have hb3:Below w.heap.size w w3:=by rw [hm] at hb2;exact hb2.grown hg0 hb2.size (fun j hj=>by cases hj)
 have hr:m<w2.heap.size:=hl2.lt;obtain ⟨r,hrr⟩:∃r,r=w2.heap.size:=⟨_,rfl⟩;have hwr:w.heap.size≤r:=by omega
 rw [←hrr] at hrg0 hs0 hr ⊢;clear hb2 hl2 hg0 FN hrr hm HM;have HB:=Hh hb3;clear hb3
 go_loopw [3,4] (fun _ _ wr=>∃ (left:Lit→Bool) (cnt:Nat),wr.ranges prog 3 (plainElem (H:=Unit) prog 9) m r 3 fmD left cnt∧aKr s.data.toList left∧Below w.heap.size w wr) (fun _ _ wr=>wr.rangeLeft m r)
 case atStart=>
  refine ⟨_,_,hrg0,fun f hf hl=>?_,HB.o⟩
  have:=(wZ f).1;rw [hf] at this;rw [this] at hl;cases hl
 case round=>
  obtain ⟨left,cnt,hrg,hA,hnx⟩:=hrel
  go_wp2_with (first
   | (at_next;refine wpList_next_ranges_is _ rfl _ rfl 3 9 .i64 qW underlying3 underlying9 m r 3 _ _ _ rfl hrg ?_ ?_)
   | go_in)
  ·intro hc0 hl0
   have e:=QJ fun f hf=>hA f hf (hl0 _)
   have E:=Hh e;clear e
   go_wp2
   go_ret
   exact ⟨by rw [E.o];rfl,hnx⟩
  ·intro x c w1 cnt1 hwx hwc hlx hat hrg1 hlt hg1 hs1 hen
   have hx:wO x=true∧jD x=c.data.toList:=by
    have h:=(wZ x).2 (.lit (.bool true));rw [hat] at h;rcases lN x with ⟨q,-⟩ | ⟨q,-⟩
    ·rw [q,Am rfl] at h
     simp only [Cx,Lit.string.injEq] at h;exact ⟨q,h.symm⟩
    ·rw [q,Af (by decide)] at h
     cases h
   have hb1:=hnx.grown hg1 hnx.size (fun j hj=>by cases hj;exact hwr)
   have HX:=Hh hx;have HB1:=Hh hb1;clear hx hb1 hat hwx hwc
   by_cases hq:c=s
   ·have q1:(c.toList == s.toList)=true:=by rw [hq];exact beq_self_eq_true _
    have E:Hid (jC s.data.toList=x):=Hh (XR HX.o.1 (by rw [HX.o.2,hq]))
    clear hq
    go_wp2
    go_ret
    exact ⟨by rw [E.o];rfl,HB1.o⟩
   ·have q1:(c.toList == s.toList)=false:=by
     rw [Db,Ci,Ci];intro e;exact hq (Cp (Ce.1 e))
    have HN:Hid (jD x ≠ s.data.toList):=Hh fun e=>hq (Cp (Ce.1 (HX.o.2.symm.trans e)))
    have HA:=Hh hA;clear hq hA
    go_wp2
    go_roundw
    case rel=>
     refine ⟨_,cnt1,hrg1,fun f hf hl=>?_,HB1.o⟩
     cases e:left (.int .i64 f) with
     | false=>exact HA.o f hf e
     | true=>
      have hl:(left (.int .i64 f) && !(Lit.int IntKind.i64 f).sameKey (.int .i64 x))=false:=hl;rw [e,Bool.true_and] at hl;have:(Lit.int IntKind.i64 f).sameKey (.int .i64 x)=true:=by simpa using hl
      have:f=x:=by simpa [Lit.sameKey] using this
      rw [this];exact HN.o
    case measure=>rw [hrg1.left_eq,hrg.left_eq];exact hlt
theorem mF {w:World} {g j:Nat} {cs:Array Value} {T:TypeId} (h:w.heap[g]?=some (.cells cs T (0,0))) (x:Value):(w.setCell ⟨g,j,none⟩ x).heap[g]?=some (.cells (cs.setIfInBounds j x) T (0,0)):=by
 have hlt:=Aa h;have h':w.heap[g]=.cells cs T (0,0):=by simpa [Ca hlt] using h
 show (w.heap.modify g _)[g]?=_
 rw [Ca (by simpa using hlt),Array.getElem_modify_self,h']
 rfl
theorem jI (w:World) (g j:Nat) (v:Value):w.grownBy (w.setCell ⟨g,j,none⟩ v) (some g):=
 ⟨rfl,rfl,rfl,by simp,fun i hi hne=>heap_setCell_other w ⟨g,j,none⟩ i v (show i ≠ g from fun e=>hne (by rw [e]))⟩
section
variable {w:World} {g:Nat} {a b c d e:Value} {T:TypeId}
theorem dM (h:w.heap[g]?=some (.cells #[a,b,c,d,e] T (0,0))):w.cell? ⟨g,0,none⟩=some a∧w.cell? ⟨g,1,none⟩=some b∧w.cell? ⟨g,2,none⟩=some c∧w.cell? ⟨g,3,none⟩=some d∧w.cell? ⟨g,4,none⟩=some e:=by
 simp [World.cell?,h]
theorem lA (h:w.heap[g]?=some (.cells #[a,b,c,d,e] T (0,0))):w.frozen? ⟨g,0,none⟩=false∧w.frozen? ⟨g,1,none⟩=false∧w.frozen? ⟨g,2,none⟩=false∧w.frozen? ⟨g,3,none⟩=false∧w.frozen? ⟨g,4,none⟩=false:=by
 simp [World.frozen?,h]
theorem lB {w':World} {B:Nat} (hb:Below B w w') (hg:g<B) (h:w.cell? ⟨g,0,none⟩=some a∧w.cell? ⟨g,1,none⟩=some b∧w.cell? ⟨g,2,none⟩=some c∧w.cell? ⟨g,3,none⟩=some d∧w.cell? ⟨g,4,none⟩=some e):w'.cell? ⟨g,0,none⟩=some a∧w'.cell? ⟨g,1,none⟩=some b∧w'.cell? ⟨g,2,none⟩=some c∧w'.cell? ⟨g,3,none⟩=some d∧w'.cell? ⟨g,4,none⟩=some e:=
 ⟨(hb.cell (p:=⟨g,0,none⟩) hg).trans h.1,(hb.cell (p:=⟨g,1,none⟩) hg).trans h.2.1,(hb.cell (p:=⟨g,2,none⟩) hg).trans h.2.2.1,(hb.cell (p:=⟨g,3,none⟩) hg).trans h.2.2.2.1,(hb.cell (p:=⟨g,4,none⟩) hg).trans h.2.2.2.2⟩
def OE (w:World) (g:Nat) (a b c d e:Value):World:=((((w.setCell ⟨g,0,none⟩ a).setCell ⟨g,1,none⟩ b).setCell ⟨g,2,none⟩ c).setCell ⟨g,3,none⟩ d).setCell ⟨g,4,none⟩ e
theorem zV (h:w.heap[g]?=some (.cells #[a,b,c,d,e] T (0,0))) (a' b' c' d' e':Value):(OE w g a' b' c' d' e').heap[g]?=some (.cells #[a',b',c',d',e'] T (0,0)):=by
 have h1:(w.setCell ⟨g,0,none⟩ a').heap[g]?=some (.cells #[a',b,c,d,e] T (0,0)):=mF h a';have h2:((w.setCell ⟨g,0,none⟩ a').setCell ⟨g,1,none⟩ b').heap[g]?=some (.cells #[a',b',c,d,e] T (0,0)):=mF h1 b';have h3:(((w.setCell ⟨g,0,none⟩ a').setCell ⟨g,1,none⟩ b').setCell ⟨g,2,none⟩ c').heap[g]?=some (.cells #[a',b',c',d,e] T (0,0)):=mF h2 c';have h4:((((w.setCell ⟨g,0,none⟩ a').setCell ⟨g,1,none⟩ b').setCell ⟨g,2,none⟩ c').setCell ⟨g,3,none⟩ d').heap[g]?=some (.cells #[a',b',c',d',e] T (0,0)):=mF h3 d';exact mF h4 e'
theorem iJ (w:World) (g:Nat) (a b c d e:Value):w.grownBy (OE w g a b c d e) (some g):=
 aH (aH (aH (aH (jI w g 0 a) (jI _ g 1 b)) (jI _ g 2 c)) (jI _ g 3 d)) (jI _ g 4 e)
end
def vcs (v:VD):Array Value:=#[.string v.p,Iz v.a,Iz v.b,Iz v.f,Iz v.z]
def wI (z:Int):Prop:=-9223372036854775808≤z∧z≤9223372036854775807
structure AO (v:VD):Prop where
 a:wI v.a
 b:wI v.b
 f:wI v.f
 z:wI v.z
theorem vI {v:VD} (h:aU v=true):AO v:=by
 obtain ⟨-,h2,h3,h4,h5⟩:=dA h;exact ⟨by unfold wI;omega,by unfold wI;omega,by unfold wI;omega,by unfold wI;omega⟩
theorem nV (z m:Int) (w:World):Calls prog 76 #[Iz z,Iz m] w fun e w'=>e=.returned (.bool (inR z m))∧w=w':=by
 go_enter func76,ntmps76
 by_cases h0:0≤z
 ·by_cases h1:z≤m
  ·have E:Hid (inR z m=true):=Hh (by unfold inR;rw [An h0,An h1];rfl)
   go_wp2
   go_ret
   exact ⟨by rw [E.o];rfl,rfl⟩
  ·have E:Hid (inR z m=false):=Hh (by unfold inR;rw [An h0,Ap h1];rfl)
   go_wp2
   go_ret
   exact ⟨by rw [E.o];rfl,rfl⟩
 ·have E:Hid (inR z m=false):=Hh (by unfold inR;rw [Ap h0];rfl)
  go_wp2
  go_ret
  exact ⟨by rw [E.o];rfl,rfl⟩
theorem YJ (l:Ub):uR l=(decide (l.length=4) && l.all fun c=>decide (65≤c.toNat) && decide (c.toNat≤90)):=rfl
theorem NV (n b0 b1 b2 b3:Nat) (hn:1≤n) (h0:128≤b0):128≤(Lib.decodeN n b0 b1 b2 b3).1:=by
 unfold Lib.decodeN;rw [Af (by omega)]
 split
 ·split
  ·assumption
  ·decide
 ·split
  ·split
   ·show 128≤_;omega
   ·decide
  ·split
   ·split
    ·show 128≤_;omega
    ·decide
   ·decide
theorem RD {l:Ub} {c:UInt8} {i:Nat} (h:l[i]?=some c) (hc:¬ (65≤c.toNat∧c.toNat≤90)):uR l=false:=by
 unfold uR;rw [Bool.and_eq_false_iff];refine .inr ?_;rw [List.all_eq_false];refine ⟨c,Aq h,?_⟩;intro e;rw [Ak,Av,Av] at e;exact hc e
theorem UI (s:Bt) (w:World):Calls prog 75 #[.string s] w fun e w'=>e=.returned (.bool (uR s.data.toList))∧Below w.heap.size w w':=by
 have hl:s.data.toList.length=s.size:=by rw [Ah];rfl
 go_enter func75,ntmps75
 go_upto_region 2 with fail
 go_loopg [4] s.size (fun g _ wx=>∃i:Nat,i+g=s.size∧wx=w.iter s i∧Hid ((s.data.toList.take i).all (fun c=>decide (65≤c.toNat) && decide (c.toNat≤90))=true))
 case atStart=>exact ⟨0,by omega,rfl,Hh rfl⟩
 case round=>
  obtain ⟨i,hig,rfl,hA⟩:=hrel;cases gk with
  | zero=>
   obtain rfl:i=s.size:=by omega
   have hnx:=run_next_end (P:=prog) w s s.size;have hA2:=hA.o;rw [Ao (by omega)] at hA2
   have hcap:Hid (uR s.data.toList=decide (s.size=4)):=Hh (by rw [YJ,hA2,hl,Bool.and_true])
   clear hA hA2 hl
   by_cases h4:s.size=4
   ·have q1:((s.size:Int) == 4)=true:=by rw [h4];rfl
    have E:Hid (uR s.data.toList=true):=Hh (by rw [hcap.o,An h4])
    clear h4 hcap
    go_wp2
    go_ret
    exact ⟨by rw [E.o];rfl,(Br _ _).alloc (Lr _) _⟩
   ·have q1:((s.size:Int) == 4)=false:=by simp;omega
    have E:Hid (uR s.data.toList=false):=Hh (by rw [hcap.o,Ap h4])
    clear h4 hcap
    go_wp2
    go_ret
    exact ⟨by rw [E.o];rfl,(Br _ _).alloc (Lr _) _⟩
  | succ g=>
   have hi:i<s.size:=by omega
   obtain ⟨x,hx⟩:∃x:UInt8,s[i]'hi=x:=⟨_,rfl⟩;have hxl:s.data.toList[i]?=some x:=by rw [←hx];exact Lib.data_getElem? s i hi
   have HX:=Hh hxl
   by_cases hx128:x.toNat<128
   ·have hnx:=fun ty=>run_next_ascii (P:=prog) w s i ty hi (by rw [hx];exact hx128)
    rw [hx] at hnx;clear hxl hx hl
    by_cases hc:65≤x.toNat∧x.toNat≤90
    ·have q1:¬ (x.toNat:Int)<65:=by omega
     have q2:¬ (90:Int)<(x.toNat:Int):=by omega
     have HN:Hid ((s.data.toList.take (i+1)).all (fun c=>decide (65≤c.toNat) && decide (c.toNat≤90))=true):=Hh (by
      rw [Bf,HX.o,List.all_append,hA.o]
      show (true && ((decide (65≤x.toNat) && decide (x.toNat≤90)) && true))=true
      rw [An hc.1,An hc.2];rfl)
     clear hA hc
     go_wp2
     go_roundg g
     case measure=>omega
     case rel=>exact ⟨i+1,by omega,rfl,HN⟩
    ·have HN:=Hh (RD HX.o hc)
     rcases (by omega:x.toNat<65∨(¬x.toNat<65∧90<x.toNat)) with h1 | ⟨h1,h2⟩
     ·have q1:(x.toNat:Int)<65:=by omega
      clear hc hA
      go_wp2
      go_ret
      exact ⟨by rw [HN.o];rfl,(Br _ _).alloc (Lr _) _⟩
     ·have q1:¬ (x.toNat:Int)<65:=by omega
      have q2:(90:Int)<(x.toNat:Int):=by omega
      clear hc hA
      go_wp2
      go_ret
      exact ⟨by rw [HN.o];rfl,(Br _ _).alloc (Lr _) _⟩
   ·have HN:=Hh (RD HX.o (fun h=>by omega))
    have hnx:=fun ty=>run_next_any (P:=prog) w s i ty hi
    have hd:128≤(Utf8.decode s i).1:=by
     rw [Lib.decode_N s i];exact NV _ _ _ _ _ (by omega) (by rw [Ct,hxl];show 128≤x.toNat;omega)
    have HD:=Hh hd;generalize (Utf8.decode s i).1=rn at hnx HD;have q1:¬ (rn:Int)<65:=by have:=HD.o;omega
    have q2:(90:Int)<(rn:Int):=by have:=HD.o;omega
    clear hd hA hxl hx hl;generalize (Utf8.decode s i).2=sz at hnx
    go_wp2
    go_ret
    exact ⟨by rw [HN.o];rfl,(Br _ _).alloc (Lr _) _⟩
theorem UN (v:VD):aU v=(uR v.p.data.toList && wO v.f && inR v.a 15 && inR v.b 15 && inR v.z 16777215):=rfl
theorem qJ (v:VD) (w:World) (hv:AO v):Calls prog 43 #[.agg (vcs v)] w fun e w'=>e=.returned (.bool (aU v))∧Below w.heap.size w w':=by
 have FN:=Hh (fun wx:World=>qZ wx)
 have VP:=Hh (fun wx:World=>UI v.p wx)
 have WA:=Hh (fun wx:World=>nV v.a 15 wx)
 have WB:=Hh (fun wx:World=>nV v.b 15 wx)
 have WZ:=Hh (fun wx:World=>nV v.z 16777215 wx)
 have E:=Hh (UN v);have HF:=Hh hv.f;unfold vcs;clear hv
 go_enter func43,ntmps43
 go_upto_region 1 with fail
 generalize ae:w.alloc _=w1;obtain ⟨b0,k0⟩:=Al ae;clear ae;have HB1:=Hh b0;have K0:=Hh k0;refine aJ (fun w'=>w'.cell? ⟨w.heap.size,3,none⟩=some (Iz v.f)) [2] (.take 1 (.take 2 (.ask 0 true (.ask 3 false (.take 4 (.take 5 (.take 6 (.take 7 (.take 8 .stop))))) .stop) .stop))) (by kernel_rfl) (by kernel_rfl) (fun _ d _ _ _ h=>by cases d <;> exact h) (dM k0).2.2.2.1 ?_
 have hbd:Below w1.heap.size w1 w1.drew:=(Br _ _).drew;have HBD:=Hh hbd;clear b0 k0 hbd;generalize w1.drew=wd at HBD ⊢;refine aG _ ?_ rfl rfl ?_ (fun K hK=>?_);rotate_left;(intro w0;go_simp;(try rfl));(go_simp;refine hK _ ?_;clear hK K)
 refine aN _ ?_ rfl rfl (by decide) ?_ (fun K hK=>?_);rotate_left;(intro w0 hw0;go_simp;(try rfl));(go_simp;refine hK _ ?_;clear hK K)
 refine aI _ rfl trivial ?_;go_wp2_with (go_at_call 74;(with_reducible refine (FN.o _).mono ?_);rintro e w2 ⟨rfl,hl2,hb2⟩);refine Seg.mk ⟨(dM (((HBD.o.trans (hb2.mono HBD.o.size)).block _ (Aa K0.o)).trans K0.o)).2.2.2.1,?_⟩;have hlk:=hl2.look2 HF.o.1 HF.o.2;have hB2:Below w.heap.size w w2:=HB1.o.trans ((HBD.o.trans (hb2.mono HBD.o.size)).mono HB1.o.size);have hc:=dM (((HBD.o.trans (hb2.mono HBD.o.size)).block _ (Aa K0.o)).trans K0.o);have HB2:=Hh hB2;clear hB2 HBD hb2 hl2 FN HF HB1 K0;generalize wd.heap.size=m at hlk ⊢;obtain ⟨bF,hbF⟩:∃b,b=wO v.f:=⟨_,rfl⟩;rw [←hbF] at hlk E;clear hbF;refine aF _ rfl trivial ?_;go_wp2_with fail;refine Seg.mk ?_;clear hlk
 iterate 5 (refine aG _ ?_ rfl rfl ?_ (fun K hK=>?_);rotate_left;(intro w0;go_simp;(try rfl));(go_simp;refine hK _ ?_;clear hK K))
 unfold cN;obtain ⟨bP,hbP⟩:∃b,b=uR v.p.data.toList:=⟨_,rfl⟩;obtain ⟨bA,hbA⟩:∃b,b=inR v.a 15:=⟨_,rfl⟩;obtain ⟨bB,hbB⟩:∃b,b=inR v.b 15:=⟨_,rfl⟩;obtain ⟨bZ,hbZ⟩:∃b,b=inR v.z 16777215:=⟨_,rfl⟩;rw [←hbP] at VP E;rw [←hbA] at WA E;rw [←hbB] at WB E;rw [←hbZ] at WZ E;clear hbP hbA hbB hbZ;have hE:∀b,(bP && bF && bA && bB && bZ)=b→aU v=b:=fun b h=>E.o.trans h
 have HE:=Hh hE;clear hE E;cases bF with
 | false=>
  have E2:Hid (aU v=false):=Hh (HE.o _ (by cases bP <;> rfl))
  clear HE
  go_wp2
  go_ret
  exact ⟨by rw [E2.o];rfl,HB2.o⟩
 | true=>
 cases bP with
 | false=>
  have E2:Hid (aU v=false):=Hh (HE.o _ (by cases bA <;> cases bB <;> cases bZ <;> rfl))
  clear HE
  go_wp2_with (first
   | (go_at_call 75;(with_reducible refine (VP.o _).mono ?_);rintro e w3 ⟨rfl,hb3⟩;go_loud ((have hl3:w.heap.size<w2.heap.size:=cD hc.1);(have hc3:=lB hb3 hl3 hc);(have HB3:=Hh (HB2.o.trans (hb3.mono HB2.o.size)));clear hc hb3 hl3))
   | (go_at_call 76;(with_reducible refine (WA.o _).mono ?_);rintro e w4 ⟨rfl,rfl⟩)
   | (go_at_call 76;(with_reducible refine (WB.o _).mono ?_);rintro e w4 ⟨rfl,rfl⟩)
   | (go_at_call 76;(with_reducible refine (WZ.o _).mono ?_);rintro e w4 ⟨rfl,rfl⟩))
  go_ret
  exact ⟨by rw [E2.o];rfl,HB3.o⟩
 | true=>
 cases bA with
 | false=>
  have E2:Hid (aU v=false):=Hh (HE.o _ (by cases bB <;> cases bZ <;> rfl))
  clear HE
  go_wp2_with (first
   | (go_at_call 75;(with_reducible refine (VP.o _).mono ?_);rintro e w3 ⟨rfl,hb3⟩;go_loud ((have hl3:w.heap.size<w2.heap.size:=cD hc.1);(have hc3:=lB hb3 hl3 hc);(have HB3:=Hh (HB2.o.trans (hb3.mono HB2.o.size)));clear hc hb3 hl3))
   | (go_at_call 76;(with_reducible refine (WA.o _).mono ?_);rintro e w4 ⟨rfl,rfl⟩)
   | (go_at_call 76;(with_reducible refine (WB.o _).mono ?_);rintro e w4 ⟨rfl,rfl⟩)
   | (go_at_call 76;(with_reducible refine (WZ.o _).mono ?_);rintro e w4 ⟨rfl,rfl⟩))
  go_ret
  exact ⟨by rw [E2.o];rfl,HB3.o⟩
 | true=>
 cases bB with
 | false=>
  have E2:Hid (aU v=false):=Hh (HE.o _ (by cases bZ <;> rfl))
  clear HE
  go_wp2_with (first
   | (go_at_call 75;(with_reducible refine (VP.o _).mono ?_);rintro e w3 ⟨rfl,hb3⟩;go_loud ((have hl3:w.heap.size<w2.heap.size:=cD hc.1);(have hc3:=lB hb3 hl3 hc);(have HB3:=Hh (HB2.o.trans (hb3.mono HB2.o.size)));clear hc hb3 hl3))
   | (go_at_call 76;(with_reducible refine (WA.o _).mono ?_);rintro e w4 ⟨rfl,rfl⟩)
   | (go_at_call 76;(with_reducible refine (WB.o _).mono ?_);rintro e w4 ⟨rfl,rfl⟩)
   | (go_at_call 76;(with_reducible refine (WZ.o _).mono ?_);rintro e w4 ⟨rfl,rfl⟩))
  go_ret
  exact ⟨by rw [E2.o];rfl,HB3.o⟩
 | true=>
 cases bZ with
 | false=>
  have E2:Hid (aU v=false):=Hh (HE.o _ (rfl));clear HE
  go_wp2_with (first
   | (go_at_call 75;(with_reducible refine (VP.o _).mono ?_);rintro e w3 ⟨rfl,hb3⟩;go_loud ((have hl3:w.heap.size<w2.heap.size:=cD hc.1);(have hc3:=lB hb3 hl3 hc);(have HB3:=Hh (HB2.o.trans (hb3.mono HB2.o.size)));clear hc hb3 hl3))
   | (go_at_call 76;(with_reducible refine (WA.o _).mono ?_);rintro e w4 ⟨rfl,rfl⟩)
   | (go_at_call 76;(with_reducible refine (WB.o _).mono ?_);rintro e w4 ⟨rfl,rfl⟩)
   | (go_at_call 76;(with_reducible refine (WZ.o _).mono ?_);rintro e w4 ⟨rfl,rfl⟩))
  go_ret
  exact ⟨by rw [E2.o];rfl,HB3.o⟩
 | true=>
  have E2:Hid (aU v=true):=Hh (HE.o _ rfl);clear HE
  go_wp2_with (first
   | (go_at_call 75;(with_reducible refine (VP.o _).mono ?_);rintro e w3 ⟨rfl,hb3⟩;go_loud ((have hl3:w.heap.size<w2.heap.size:=cD hc.1);(have hc3:=lB hb3 hl3 hc);(have HB3:=Hh (HB2.o.trans (hb3.mono HB2.o.size)));clear hc hb3 hl3))
   | (go_at_call 76;(with_reducible refine (WA.o _).mono ?_);rintro e w4 ⟨rfl,rfl⟩)
   | (go_at_call 76;(with_reducible refine (WB.o _).mono ?_);rintro e w4 ⟨rfl,rfl⟩)
   | (go_at_call 76;(with_reducible refine (WZ.o _).mono ?_);rintro e w4 ⟨rfl,rfl⟩))
  go_ret
  exact ⟨by rw [E2.o];rfl,HB3.o⟩
end Go.Proofs.YtncdpanfefnjlaaGreatDoor