import Derived.Test.YtncdpanfefnjlaaGreatDoorJmap
import Derived.Test.YtncdpanfefnjlaaGreatDoorPlan
set_option linter.unusedVariables false
set_option linter.unusedSimpArgs false
set_option maxHeartbeats 3200000
set_option maxRecDepth 100000
namespace Go.Proofs.YtncdpanfefnjlaaGreatDoor
open Go.Proofs.Tryz
open Go
structure VD where
 p:Bt
 a:Int
 b:Int
 f:Int
 z:Int
def v0:VD:=⟨⟨#[]⟩,0,0,0,0⟩
def vU (l:Ub):Bool:=decide (l.length=4) && l.all fun c=>decide (65≤c.toNat) && decide (c.toNat≤90)
def inR (z m:Int):Bool:=decide (0≤z) && decide (z≤m)
def aY (v:VD):Bool:=vU v.p.data.toList && (inR v.f 3 && !decide (v.f=0)) && inR v.a 15 && inR v.b 15 && inR v.z 16777215
def vhC (n:Nat):UInt8:=if n<10 then UInt8.ofNat (48+n) else UInt8.ofNat (87+n)
def vhL:Nat→Nat→Ub
 | 0,_=>[]
 | k+1,n=>vhL k (n / 16)++[vhC (n % 16)]
def vhD (c:UInt8):Option Nat:=if 48≤c.toNat∧c.toNat≤57 then some (c.toNat - 48) else if 97≤c.toNat∧c.toNat≤102 then some (c.toNat - 87) else none
def vhN (l:Ub):Option Nat:=l.foldl (fun o c=>o.bind fun n=>(vhD c).map fun d=>16 * n+d) (some 0)
theorem dL:∀k n,(vhL k n).length=k
 | 0,_=>rfl
 | k+1,n=>by rw [vhL,Lg,dL k];rfl
theorem yY (l:Ub) (c:UInt8):vhN (l++[c])=(vhN l).bind fun n=>(vhD c).map fun d=>16 * n+d:=by unfold vhN;rw [List.foldl_append];rfl
theorem aKs (n:Nat) (h:n<16):vhD (vhC n)=some n:=by
 have:∀n:Fin 16,vhD (vhC n.1)=some n.1:=by decide
 exact this ⟨n,h⟩
theorem aKt {c:UInt8} {n:Nat} (h:vhD c=some n):vhC n=c∧n<16:=by
 have:∀k:Fin 256,∀n,vhD (UInt8.ofNat k.1)=some n→vhC n=UInt8.ofNat k.1∧n<16:=by
  have a:∀k:Fin 256,(match vhD (UInt8.ofNat k.1) with | some n=>decide (vhC n=UInt8.ofNat k.1∧n<16) | none=>true)=true:=by decide +kernel
  intro k n h;have:=a k;rw [h] at this;exact Ci this
 have b:=this ⟨c.toNat,c.toNat_lt⟩ n;rw [show UInt8.ofNat c.toNat=c from Dp] at b
 exact b h
theorem yZ:∀k n,n<16 ^ k→vhN (vhL k n)=some n
 | 0,n,h=>by
  have:n=0:=by simpa using h
  subst this;rfl
 | k+1,n,h=>by
  rw [vhL,yY,yZ k (n / 16) (by rw [Dz] at h;omega),aKs _ (Nat.mod_lt _ (by decide))]
  show some (16 * (n / 16)+n % 16)=_
  congr 1;omega
theorem UC:∀ (k:Nat) (l:Ub) (n:Nat),l.length=k→vhN l=some n→vhL k n=l∧n<16 ^ k
 | 0,l,n,hl,h=>by
  rw [Aw.1 hl] at h ⊢;cases h;exact ⟨rfl,by decide⟩
 | k+1,l,n,hl,h=>by
  have b:l ≠ []:=by intro e;subst e;cases hl
  rw [←List.dropLast_concat_getLast b] at h ⊢;have a:l.dropLast.length=k:=by rw [List.length_dropLast];omega
  generalize l.dropLast=t at h a ⊢;generalize l.getLast b=c at h ⊢;rw [yY] at h;cases ht:vhN t with
  | none=>rw [ht] at h;cases h
  | some m=>
   cases hd:vhD c with
   | none=>rw [ht,hd] at h;cases h
   | some d=>
    rw [ht,hd] at h;have h:16 * m+d=n:=Ab h;obtain ⟨f,i⟩:=UC k t m a ht;obtain ⟨j,g⟩:=aKt hd;subst h;refine ⟨?_,by rw [Dz];omega⟩
    rw [vhL,show (16 * m+d) / 16=m by omega,show (16 * m+d) % 16=d by omega,f,j]
def jM (f:Int):Ub:=if f=1 then [74,83,79,78] else if f=2 then [67,66,79,82] else if f=3 then [77,71,80,75] else []
def jL (l:Ub):Int:=if l=[74,83,79,78] then 1 else if l=[67,66,79,82] then 2 else if l=[77,71,80,75] then 3 else 0
def fS (v:VD):Ub:=v.p.data.toList++(vhL 1 v.a.toNat++(vhL 1 v.b.toNat++(jM v.f++(vhL 6 v.z.toNat++[95]))))
def vtS (v:VD):Bt:=if aY v then ⟨(fS v).toArray⟩ else ⟨#[]⟩
def vtE (v:VD):Int:=if aY v then 0 else 2
def eZ (l:Ub):Option VD:=
 if l.length=17 then
  match vhN ((l.drop 4).take 1),vhN ((l.drop 5).take 1),vhN ((l.drop 10).take 6) with
  | some a,some b,some z=>if aY ⟨⟨(l.take 4).toArray⟩,a,b,jL ((l.drop 6).take 4),z⟩∧l.drop 16=[95] then some ⟨⟨(l.take 4).toArray⟩,a,b,jL ((l.drop 6).take 4),z⟩ else none
  | _,_,_=>none
 else none
def pvV (l:Ub):VD:=(eZ l).getD v0
def pvE (l:Ub):Int:=if (eZ l).isSome then 0 else 10
theorem dF {v:VD} (h:aY v=true):v.p.data.toList.length=4∧(v.f=1∨v.f=2∨v.f=3)∧(0≤v.a∧v.a≤15)∧(0≤v.b∧v.b≤15)∧0≤v.z∧v.z≤16777215:=by
 unfold aY vU inR at h;simp only [An,As,Bool.not_eq_true',decide_eq_false_iff_not] at h;obtain ⟨⟨⟨⟨⟨d,j⟩,i⟩,g⟩,c⟩,e⟩:=h;exact ⟨d,by omega,g,c,e⟩
theorem GW {P A B F Z E:Ub} (d:P.length=4) (e:A.length=1) (b:B.length=1) (c:F.length=4) (f:Z.length=6) (a:E.length=1) :
 (P++(A++(B++(F++(Z++E))))).length=17∧(P++(A++(B++(F++(Z++E))))).take 4=P∧((P++(A++(B++(F++(Z++E))))).drop 4).take 1=A∧((P++(A++(B++(F++(Z++E))))).drop 5).take 1=B∧((P++(A++(B++(F++(Z++E))))).drop 6).take 4=F∧((P++(A++(B++(F++(Z++E))))).drop 10).take 6=Z∧(P++(A++(B++(F++(Z++E))))).drop 16=E:=by
 refine ⟨by simp only [Lg];omega,?_,?_,?_,?_,?_,?_⟩ <;>
  simp [List.take_append,List.drop_append,d,e,b,c,f,a,Ak,List.drop_eq_nil_of_le]
theorem kC {f:Int} (h:f=1∨f=2∨f=3):(jM f).length=4∧jL (jM f)=f:=by rcases h with rfl | rfl | rfl <;> decide
theorem gG {v:VD} (h:aY v=true):(fS v).length=17:=by
 obtain ⟨a,b,d,e,c⟩:=dF h;exact (GW a (dL 1 _) (dL 1 _) (kC b).1 (dL 6 _) rfl).1
theorem AH {v:VD} (h:aY v=true):eZ (fS v)=some v:=by
 obtain ⟨l,g,d,i,c⟩:=dF h;obtain ⟨q,o,m,r,k,j,n⟩:=GW l (dL 1 v.a.toNat) (dL 1 v.b.toNat) (kC g).1 (dL 6 v.z.toNat) (E:=[95]) rfl;have e:(⟨⟨v.p.data.toList.toArray⟩,(v.a.toNat:Int),(v.b.toNat:Int),v.f,(v.z.toNat:Int)⟩:VD)=v:=by
  obtain ⟨⟨⟨p⟩⟩,a,b,f,z⟩:=v;simp only at d i c ⊢;rw [Int.toNat_of_nonneg d.1,Int.toNat_of_nonneg i.1,Int.toNat_of_nonneg c.1]
 unfold eZ;rw [Am (show (fS v).length=17 from q)]
 unfold fS at *;rw [o,m,r,k,j,n,yZ 1 _ (by omega),yZ 1 _ (by omega),yZ 6 _ (by omega),(kC g).2]
 show (if _ then _ else _)=_
 rw [e,Am ⟨h,rfl⟩]
theorem vB {l:Ub} {v:VD} (h:eZ l=some v):aY v=true∧fS v=l:=by
 unfold eZ at h
 split at h
 ·rename_i hl
  split at h
  ·rename_i a b z ha hb hz
   split at h
   ·rename_i hv
    cases h;refine ⟨hv.1,?_⟩;obtain ⟨p,c,q,r,o⟩:=dF hv.1;have d:=(UC 1 _ _ (by simp;omega) ha).1
    have f:=(UC 1 _ _ (by simp;omega) hb).1
    have m:=(UC 6 _ _ (by simp;omega) hz).1
    have i:jM (jL ((l.drop 6).take 4))=(l.drop 6).take 4:=by
     have c:jL ((l.drop 6).take 4)=1∨jL ((l.drop 6).take 4)=2∨jL ((l.drop 6).take 4)=3:=c;generalize (l.drop 6).take 4=x at c ⊢;unfold jL at c ⊢
     split at c
     ·rename_i e;rw [Am e,e];rfl
     ·rename_i d;rw [Ae d];split at c
      ·rename_i e;rw [Am e,e];rfl
      ·rename_i f;rw [Ae f];split at c
       ·rename_i e;rw [Am e,e];rfl
       ·omega
    show l.take 4++(vhL 1 ((a:Int).toNat)++(vhL 1 ((b:Int).toNat)++(jM (jL ((l.drop 6).take 4))++(vhL 6 ((z:Int).toNat)++[95]))))=l
    rw [Int.toNat_natCast,Int.toNat_natCast,Int.toNat_natCast,d,f,m,i,←hv.2];have k:(l.drop 10).take 6++l.drop 16=l.drop 10:=by rw [show l.drop 16=(l.drop 10).drop 6 by rw [List.drop_drop],De]
    have j:(l.drop 6).take 4++l.drop 10=l.drop 6:=by rw [show l.drop 10=(l.drop 6).drop 4 by rw [List.drop_drop],De]
    have g:(l.drop 5).take 1++l.drop 6=l.drop 5:=by rw [show l.drop 6=(l.drop 5).drop 1 by rw [List.drop_drop],De]
    have n:(l.drop 4).take 1++l.drop 5=l.drop 4:=by rw [show l.drop 5=(l.drop 4).drop 1 by rw [List.drop_drop],De]
    rw [k,j,g,n,De]
   ·cases h
  ·cases h
 ·cases h
theorem ER {l:Ub} {v:VD}:eZ l=some v↔aY v=true∧fS v=l:=
 ⟨vB,fun h=>h.2 ▸ AH h.1⟩
def eO (l:Ub):Nat→Nat→Option (VD × Nat)
 | 0,_=>none
 | n+1,i=>if i+17≤l.length then match eZ ((l.drop i).take 17) with
  | some v=>some (v,i)
  | none=>eO l n (i+1)
  else none
def fdV (l:Ub):VD:=match eO l 25 0 with | some x=>x.1 | none=>v0
def fdP (l:Ub):Int:=match eO l 25 0 with | some x=>(x.2:Int) | none=>0
def fdE (l:Ub):Int:=if (eO l 25 0).isSome then 0 else 10
theorem BJ (l:Ub):∀ (k n i:Nat),(∀j,i≤j→j<i+k→eZ ((l.drop j).take 17)=none)→i+k+17≤l.length→eO l (k+n) i=eO l n (i+k)
 | 0,n,i,_,_=>by rw [Ca,Nat.add_zero]
 | k+1,n,i,h,hl=>by
  rw [show k+1+n=(k+n)+1 by omega,eO,Am (by omega),h i (Lr _) (by omega)]
  rw [show i+(k+1)=i+1+k by omega]
  exact BJ l k n (i+1) (fun j a b=>h j (by omega) (by omega)) (by omega)
theorem XM {l:Ub} (h:vU (l.take 4)=false):eZ l=none:=by
 cases hp:eZ l with
 | none=>rfl
 | some v=>
  obtain ⟨a,b⟩:=vB hp;have c:=(dF a).1;have:v.p.data.toList=l.take 4:=by rw [←b];unfold fS;rw [List.take_append_of_le_length (by omega),Ak (by omega)]
  unfold aY at a;rw [this,h] at a;cases a
end Go.Proofs.YtncdpanfefnjlaaGreatDoor
namespace Go.Proofs.YtncdpanfefnjlaaGreatDoor
open Go.Proofs.Tryz
open Go Go.Maps Go.ChangeShapes Go.WideShapes Go.ChangeAt Go.RowKit
def fmD:DataW Unit:=(((DataW.map []).put (.int .i64 1) (.lit (.string [74,83,79,78]))).put (.int .i64 2) (.lit (.string [67,66,79,82]))).put (.int .i64 3) (.lit (.string [77,71,80,75]))
def xT (f:Int):Bool:=inR f 3 && !decide (f=0)
theorem mA (f:Int):(xT f=true∧(f=1∨f=2∨f=3))∨(xT f=false∧f ≠ 1∧f ≠ 2∧f ≠ 3∧jM f=[]):=by
 unfold xT inR
 by_cases a:f=1
 ·subst a;exact .inl ⟨rfl,by decide⟩
 by_cases c:f=2
 ·subst c;exact .inl ⟨rfl,by decide⟩
 by_cases b:f=3
 ·subst b;exact .inl ⟨rfl,by decide⟩
 refine .inr ⟨?_,a,c,b,by unfold jM;rw [Ae a,Ae c,Ae b]⟩
 cases e:decide (f=0)
 ·have:=of_decide_eq_false e
  by_cases d:0≤f
  ·rw [Ap d,Ar (by omega)];rfl
  ·rw [Ar d];rfl
 ·rw [Bool.not_true,Bool.and_false]
theorem yG (f:Int):Maps.has fmD (.int .i64 f)=xT f∧∀z,fmD.atKey (.int .i64 f) z=if xT f then .lit (.string (jM f)) else z:=by
 have c:IsMap (.map []:DataW Unit):=isMap_empty;have a:=c.put (.int .i64 1) (.lit (.string [74,83,79,78]));have g:=a.put (.int .i64 2) (.lit (.string [67,66,79,82]));unfold fmD;refine ⟨?_,fun z=>?_⟩
 ·rw [iK g,iK a,iK c,show Maps.has (.map []:DataW Unit) (.int .i64 f)=false from rfl]
  rcases mA f with ⟨h,rfl | rfl | rfl⟩ | ⟨h,b,e,d,-⟩
  ·rfl
  ·rfl
  ·rfl
  ·rw [h,Ar b,Ar e,Ar d];rfl
 ·rw [kI g,kI a,kI c,show (.map []:DataW Unit).atKey (.int .i64 f) z=z from rfl]
  rcases mA f with ⟨h,rfl | rfl | rfl⟩ | ⟨h,b,e,d,-⟩
  ·rfl
  ·rfl
  ·rfl
  ·rw [h,Ae b,Ae e,Ae d];rfl
theorem rV:Keyed prog 3:=int_keyed underlying3
theorem KE (w:World):(zeroValue 9).run prog w=.ok (.string ⟨#[]⟩) w:=by kernel_rfl
def iH (w:World) (m:Nat):Prop:=w.ownsMap prog 3 (plainElem (H:=Unit) prog 9) m 3 fmD
theorem iH.kept {w w':World} {m:Nat} {row:Option Nat} (h:iH w m) (b:w.grownBy w' row) (a:some m ≠ row):iH w' m:=Cu h b a
theorem iH.below {w w':World} {m:Nat} (h:iH w m) (a:Below w.heap.size w w'):iH w' m:=h.kept (aK a (Lr _) none) (by simp)
theorem iH.lt {w:World} {m:Nat} (h:iH w m):m<w.heap.size:=World.ownsMap.lt h
theorem iH.look {w:World} {m:Nat} (h:iH w m) {f:Int} (d:-9223372036854775808≤f) (c:f≤9223372036854775807):(∃v b,(Instr.lookup 112 (.map (some m)) (.int .i64 f) true).run prog w=.ok (.tuple #[v,.bool (Maps.has fmD (.int .i64 f))]) w∧plainElem (H:=Unit) prog 9 v=some (fmD.atKey (.int .i64 f) (.lit (.string [])),b)):=by
 have a:(Lit.int IntKind.i64 f).wf=true:=by simp [Lit.wf,IntKind.min,IntKind.max,IntKind.signed,IntKind.bits];omega
 exact World.ownsMap.look_ok h rV underlying112 (KE w) (Dc underlying9 (by decide)) (keyOf_int_mk underlying3 a)
theorem aDz {f:Int} {v:Value} {c:List MemPlace} (d:plainElem (H:=Unit) prog 9 v=some (fmD.atKey (.int .i64 f) (.lit (.string [])),c)):v=.string ⟨(jM f).toArray⟩:=by
 obtain ⟨s,rfl,a,_⟩:=plainElem_string_inv underlying9 d;rw [(yG f).2] at a;have g:s=⟨(jM f).toArray⟩:=by
  rcases mA f with ⟨b,-⟩ | ⟨b,-,-,-,e⟩
  ·rw [b,Am rfl] at a
   simp only [Dt,Db,Lit.string.injEq] at a;exact Cr (Cg.1 a.1.symm)
  ·rw [b,Ae (by decide)] at a
   simp only [Dt,Db,Lit.string.injEq] at a;rw [e];exact Cr (Cg.1 a.1.symm)
 rw [g]
theorem iH.look2 {w:World} {m:Nat} (h:iH w m) {f:Int} (d:-9223372036854775808≤f) (b:f≤9223372036854775807):(Instr.lookup 112 (.map (some m)) (Iz f) true).run prog w=.ok (.tuple #[.string ⟨(jM f).toArray⟩,.bool (xT f)]) w:=by
 obtain ⟨v,e,a,c⟩:=h.look d b;rw [a,aDz c,(yG f).1]
theorem iH.look1 {w:World} {m:Nat} (h:iH w m) {f:Int} (g:-9223372036854775808≤f) (d:f≤9223372036854775807):(Instr.lookup 112 (.map (some m)) (Iz f) false).run prog w=.ok (.string ⟨(jM f).toArray⟩) w:=by
 have b:(Lit.int IntKind.i64 f).wf=true:=by simp [Lit.wf,IntKind.min,IntKind.max,IntKind.signed,IntKind.bits];omega
 obtain ⟨v,e,a,c⟩:=World.ownsMap.lookup h rV underlying112 (KE w) (Dc underlying9 (by decide)) (keyOf_int_mk underlying3 b)
 rw [a,aDz c]
theorem rX (w:World):Calls prog 74 #[] w fun e w'=>e=.returned (.map (some w.heap.size))∧iH w' w.heap.size∧Below w.heap.size w w':=by
 have m:=@run_makeMap prog;have f:=World.ownsMap_made (H:=Unit) w prog 3 (plainElem (H:=Unit) prog 9);have b:=(Br w.heap.size w).alloc (o:=.map #[] 0) (Lr _);have k:=Hh f;have g:=Hh b;clear f b
 go_enter func74,ntmps74
 go_wp2_with (first
  | (refine cC _ rfl _ _ _ 112 rfl 3 9 rV underlying112 _ w.heap.size 2 _ rfl n (by unfold maxLen;omega) _ _ _ rfl rfl (keyOf_int_mk underlying3 (a:=3) (by decide)) _ [] (Dc underlying9 (s:=⟨#[77,71,80,75]⟩) (by decide)) ?_;intro t p l;(have h:=gI d l (d.size) (Lr _)))
  | (refine cC _ rfl _ _ _ 112 rfl 3 9 rV underlying112 _ w.heap.size 1 _ rfl j (by unfold maxLen;omega) _ _ _ rfl rfl (keyOf_int_mk underlying3 (a:=2) (by decide)) _ [] (Dc underlying9 (s:=⟨#[67,66,79,82]⟩) (by decide)) ?_;intro r n q;(have d:=gI c q (c.size) (Lr _)))
  | (refine cC _ rfl _ _ _ 112 rfl 3 9 rV underlying112 _ w.heap.size 0 _ rfl k.o (by unfold maxLen;omega) _ _ _ rfl rfl (keyOf_int_mk underlying3 (a:=1) (by decide)) _ [] (Dc underlying9 (s:=⟨#[74,83,79,78]⟩) (by decide)) ?_;intro u j i;(have c:=gI g.o i (g.o.size) (Lr _))))
 go_ret
 exact ⟨rfl,p,h⟩
def aMf (l:Ub) (left:Lit→Bool):Prop:=∀f:Int,xT f=true→left (.int .i64 f)=false→jM f ≠ l
theorem ZJ {f:Int} {l:Ub} (h:xT f=true) (e:jM f=l):jL l=f:=by
 rcases mA f with ⟨-,a⟩ | ⟨a,-⟩
 ·rw [←e];exact (kC a).2
 ·rw [h] at a;cases a
theorem SG {l:Ub} (h:∀f:Int,xT f=true→jM f ≠ l):jL l=0:=by
 unfold jL;rw [Ae (fun e=>h 1 rfl e.symm),Ae (fun e=>h 2 rfl e.symm),Ae (fun e=>h 3 rfl e.symm)]
theorem aHw (s:Bt) (w:World):Calls prog 86 #[.string s] w fun e w'=>e=.returned (Iz (jL s.data.toList))∧Below w.heap.size w w':=by
 have N:=Hh (rX w);obtain ⟨m,l⟩:∃m,m=w.heap.size:=⟨_,rfl⟩;rw [←l] at N;have S:=Hh l;clear l
 go_enter func86,ntmps86
 go_upto_region 2 with (first
  | (go_at_call 74;(with_reducible refine (N.o).mono ?_);rintro e R ⟨rfl,g,a⟩)
  | (at_range;refine wpList_range_own _ rfl _ 112 rfl 3 9 rV underlying112 _ _ 3 _ rfl g ?_;intro w3 d B J)
  | go_in)
 go_frame
 have l:=S.o;have A:Below w.heap.size w w3:=by rw [l] at a;exact a.grown B a.size (fun j L=>by cases L)
 have X:m<R.heap.size:=g.lt;obtain ⟨r,D⟩:∃r,r=R.heap.size:=⟨_,rfl⟩;have F:w.heap.size≤r:=by omega
 rw [←D] at d J X ⊢;clear a g B N D l S;have V:=Hh A;clear A
 go_loopw [3,4] (fun _ _ wr=>∃ (left:Lit→Bool) (t:Nat),wr.ranges prog 3 (plainElem (H:=Unit) prog 9) m r 3 fmD left t∧aMf s.data.toList left∧Below w.heap.size w wr) (fun _ _ wr=>wr.rangeLeft m r)
 case atStart=>
  refine ⟨_,_,d,fun f C i=>?_,V.o⟩
  have:=(yG f).1;rw [C] at this;rw [this] at i;cases i
 case round=>
  obtain ⟨left,t,z,Q,k⟩:=hrel
  go_wp2_with (first
   | (at_next;refine wpList_next_ranges_is _ rfl _ rfl 3 9 .i64 rV underlying3 underlying9 m r 3 _ _ _ rfl z ?_ ?_)
   | go_in)
  ·intro Y P
   have e:=SG fun f C=>Q f C (P _)
   have E:=Hh e;clear e
   go_wp2
   go_ret
   exact ⟨by rw [E.o];rfl,k⟩
  ·intro x c w1 p O G xa y b K I xb W
   have T:xT x=true∧jM x=c.data.toList:=by
    have h:=(yG x).2 (.lit (.bool true));rw [y] at h;rcases mA x with ⟨q,-⟩ | ⟨q,-⟩
    ·rw [q,Am rfl] at h
     simp only [Db,Lit.string.injEq] at h;exact ⟨q,h.symm⟩
    ·rw [q,Ae (by decide)] at h
     cases h
   have u:=k.grown I k.size (fun j L=>by cases L;exact F)
   have M:=Hh T;have v:=Hh u;clear T u y O G
   by_cases n:c=s
   ·have Z:(c.toList == s.toList)=true:=by rw [n];exact beq_self_eq_true _
    have E:Hid (jL s.data.toList=x):=Hh (ZJ M.o.1 (by rw [M.o.2,n]))
    clear n
    go_wp2
    go_ret
    exact ⟨by rw [E.o];rfl,v.o⟩
   ·have Z:(c.toList == s.toList)=false:=by
     rw [Bm,Cj,Cj];intro e;exact n (Cr (Cg.1 e))
    have U:Hid (jM x ≠ s.data.toList):=Hh fun e=>n (Cr (Cg.1 (M.o.2.symm.trans e)))
    have HA:=Hh Q;clear n Q
    go_wp2
    go_roundw
    case rel=>
     refine ⟨_,p,b,fun f C i=>?_,v.o⟩
     cases e:left (.int .i64 f) with
     | false=>exact HA.o f C e
     | true=>
      have i:(left (.int .i64 f) && !(Lit.int IntKind.i64 f).sameKey (.int .i64 x))=false:=i;rw [e,Bool.true_and] at i;have:(Lit.int IntKind.i64 f).sameKey (.int .i64 x)=true:=by simpa using i
      have:f=x:=by simpa [Lit.sameKey] using this
      rw [this];exact U.o
    case measure=>rw [b.left_eq,z.left_eq];exact K
theorem mS {w:World} {g j:Nat} {b:Array Value} {T:TypeId} (h:w.heap[g]?=some (.cells b T (0,0))) (x:Value):(w.setCell ⟨g,j,none⟩ x).heap[g]?=some (.cells (b.setIfInBounds j x) T (0,0)):=by
 have a:=Aa h;have c:w.heap[g]=.cells b T (0,0):=by simpa [Cd a] using h
 show (w.heap.modify g _)[g]?=_
 rw [Cd (by simpa using a),Array.getElem_modify_self,c]
 rfl
theorem jT (w:World) (g j:Nat) (v:Value):w.grownBy (w.setCell ⟨g,j,none⟩ v) (some g):=
 ⟨rfl,rfl,rfl,by simp,fun i b a=>heap_setCell_other w ⟨g,j,none⟩ i v (show i ≠ g from fun e=>a (by rw [e]))⟩
section
variable {w:World} {g:Nat} {a b c d e:Value} {T:TypeId}
theorem dQ (h:w.heap[g]?=some (.cells #[a,b,c,d,e] T (0,0))):w.cell? ⟨g,0,none⟩=some a∧w.cell? ⟨g,1,none⟩=some b∧w.cell? ⟨g,2,none⟩=some c∧w.cell? ⟨g,3,none⟩=some d∧w.cell? ⟨g,4,none⟩=some e:=by
 simp [World.cell?,h]
theorem lN (h:w.heap[g]?=some (.cells #[a,b,c,d,e] T (0,0))):w.frozen? ⟨g,0,none⟩=false∧w.frozen? ⟨g,1,none⟩=false∧w.frozen? ⟨g,2,none⟩=false∧w.frozen? ⟨g,3,none⟩=false∧w.frozen? ⟨g,4,none⟩=false:=by
 simp [World.frozen?,h]
theorem lO {w':World} {B:Nat} (i:Below B w w') (f:g<B) (h:w.cell? ⟨g,0,none⟩=some a∧w.cell? ⟨g,1,none⟩=some b∧w.cell? ⟨g,2,none⟩=some c∧w.cell? ⟨g,3,none⟩=some d∧w.cell? ⟨g,4,none⟩=some e):w'.cell? ⟨g,0,none⟩=some a∧w'.cell? ⟨g,1,none⟩=some b∧w'.cell? ⟨g,2,none⟩=some c∧w'.cell? ⟨g,3,none⟩=some d∧w'.cell? ⟨g,4,none⟩=some e:=
 ⟨(i.cell (p:=⟨g,0,none⟩) f).trans h.1,(i.cell (p:=⟨g,1,none⟩) f).trans h.2.1,(i.cell (p:=⟨g,2,none⟩) f).trans h.2.2.1,(i.cell (p:=⟨g,3,none⟩) f).trans h.2.2.2.1,(i.cell (p:=⟨g,4,none⟩) f).trans h.2.2.2.2⟩
def PZ (w:World) (g:Nat) (a b c d e:Value):World:=((((w.setCell ⟨g,0,none⟩ a).setCell ⟨g,1,none⟩ b).setCell ⟨g,2,none⟩ c).setCell ⟨g,3,none⟩ d).setCell ⟨g,4,none⟩ e
theorem BH (h:w.heap[g]?=some (.cells #[a,b,c,d,e] T (0,0))) (f i j k l:Value):(PZ w g f i j k l).heap[g]?=some (.cells #[f,i,j,k,l] T (0,0)):=by
 have m:(w.setCell ⟨g,0,none⟩ f).heap[g]?=some (.cells #[f,b,c,d,e] T (0,0)):=mS h f;have o:((w.setCell ⟨g,0,none⟩ f).setCell ⟨g,1,none⟩ i).heap[g]?=some (.cells #[f,i,c,d,e] T (0,0)):=mS m i;have n:(((w.setCell ⟨g,0,none⟩ f).setCell ⟨g,1,none⟩ i).setCell ⟨g,2,none⟩ j).heap[g]?=some (.cells #[f,i,j,d,e] T (0,0)):=mS o j;have p:((((w.setCell ⟨g,0,none⟩ f).setCell ⟨g,1,none⟩ i).setCell ⟨g,2,none⟩ j).setCell ⟨g,3,none⟩ k).heap[g]?=some (.cells #[f,i,j,k,e] T (0,0)):=mS n k;exact mS p l
theorem iS (w:World) (g:Nat) (a b c d e:Value):w.grownBy (PZ w g a b c d e) (some g):=
 aJ (aJ (aJ (aJ (jT w g 0 a) (jT _ g 1 b)) (jT _ g 2 c)) (jT _ g 3 d)) (jT _ g 4 e)
end
def vcs (v:VD):Array Value:=#[.string v.p,Iz v.a,Iz v.b,Iz v.f,Iz v.z]
def wI (z:Int):Prop:=-9223372036854775808≤z∧z≤9223372036854775807
structure CO (v:VD):Prop where
 a:wI v.a
 b:wI v.b
 f:wI v.f
 z:wI v.z
theorem wK {v:VD} (h:aY v=true):CO v:=by
 obtain ⟨-,b,a,d,c⟩:=dF h;exact ⟨by unfold wI;omega,by unfold wI;omega,by unfold wI;omega,by unfold wI;omega⟩
theorem oP (z m:Int) (w:World):Calls prog 76 #[Iz z,Iz m] w fun e w'=>e=.returned (.bool (inR z m))∧w=w':=by
 go_enter func76,ntmps76
 by_cases a:0≤z
 ·by_cases b:z≤m
  ·have E:Hid (inR z m=true):=Hh (by unfold inR;rw [Ap a,Ap b];rfl)
   go_wp2
   go_ret
   exact ⟨by rw [E.o];rfl,rfl⟩
  ·have E:Hid (inR z m=false):=Hh (by unfold inR;rw [Ap a,Ar b];rfl)
   go_wp2
   go_ret
   exact ⟨by rw [E.o];rfl,rfl⟩
 ·have E:Hid (inR z m=false):=Hh (by unfold inR;rw [Ar a];rfl)
  go_wp2
  go_ret
  exact ⟨by rw [E.o];rfl,rfl⟩
theorem aAa (l:Ub):vU l=(decide (l.length=4) && l.all fun c=>decide (65≤c.toNat) && decide (c.toNat≤90)):=rfl
theorem PQ (n a c d b:Nat) (e:1≤n) (f:128≤a):128≤(Lib.decodeN n a c d b).1:=by
 unfold Lib.decodeN;rw [Ae (by omega)]
 split
 ·split
  ·assumption
  ·decide
 ·split
  ·split
   ·show 128≤_;omega
   ·decide
  ·split
   ·split
    ·show 128≤_;omega
    ·decide
   ·decide
theorem TF {l:Ub} {c:UInt8} {i:Nat} (h:l[i]?=some c) (a:¬ (65≤c.toNat∧c.toNat≤90)):vU l=false:=by
 unfold vU;rw [Bool.and_eq_false_iff];refine .inr ?_;rw [List.all_eq_false];refine ⟨c,Ao h,?_⟩;intro e;rw [An,As,As] at e;exact a e
theorem VZ (s:Bt) (w:World):Calls prog 75 #[.string s] w fun e w'=>e=.returned (.bool (vU s.data.toList))∧Below w.heap.size w w':=by
 have t:s.data.toList.length=s.size:=by rw [Ah];rfl
 go_enter func75,ntmps75
 go_upto_region 2 with fail
 go_loopg [4] s.size (fun g _ C=>∃i:Nat,i+g=s.size∧C=w.iter s i∧Hid ((s.data.toList.take i).all (fun c=>decide (65≤c.toNat) && decide (c.toNat≤90))=true))
 case atStart=>exact ⟨0,by omega,rfl,Hh rfl⟩
 case round=>
  obtain ⟨i,D,rfl,k⟩:=hrel;cases gk with
  | zero=>
   obtain rfl:i=s.size:=by omega
   have b:=run_next_end (P:=prog) w s s.size;have j:=k.o;rw [Ak (by omega)] at j
   have a:Hid (vU s.data.toList=decide (s.size=4)):=Hh (by rw [aAa,j,t,Bool.and_true])
   clear k j t
   by_cases n:s.size=4
   ·have p:((s.size:Int) == 4)=true:=by rw [n];rfl
    have E:Hid (vU s.data.toList=true):=Hh (by rw [a.o,Ap n])
    clear n a
    go_wp2
    go_ret
    exact ⟨by rw [E.o];rfl,(Br _ _).alloc (Lr _) _⟩
   ·have p:((s.size:Int) == 4)=false:=by simp;omega
    have E:Hid (vU s.data.toList=false):=Hh (by rw [a.o,Ar n])
    clear n a
    go_wp2
    go_ret
    exact ⟨by rw [E.o];rfl,(Br _ _).alloc (Lr _) _⟩
  | succ g=>
   have r:i<s.size:=by omega
   obtain ⟨x,q⟩:∃x:UInt8,s[i]'r=x:=⟨_,rfl⟩;have d:s.data.toList[i]?=some x:=by rw [←q];exact Lib.data_getElem? s i r
   have v:=Hh d
   by_cases f:x.toNat<128
   ·have b:=fun ty=>run_next_ascii (P:=prog) w s i ty r (by rw [q];exact f)
    rw [q] at b;clear d q t
    by_cases m:65≤x.toNat∧x.toNat≤90
    ·have p:¬ (x.toNat:Int)<65:=by omega
     have z:¬ (90:Int)<(x.toNat:Int):=by omega
     have l:Hid ((s.data.toList.take (i+1)).all (fun c=>decide (65≤c.toNat) && decide (c.toNat≤90))=true):=Hh (by
      rw [Bf,v.o,List.all_append,k.o]
      show (true && ((decide (65≤x.toNat) && decide (x.toNat≤90)) && true))=true
      rw [Ap m.1,Ap m.2];rfl)
     clear k m
     go_wp2
     go_roundg g
     case measure=>omega
     case rel=>exact ⟨i+1,by omega,rfl,l⟩
    ·have l:=Hh (TF v.o m)
     rcases (by omega:x.toNat<65∨(¬x.toNat<65∧90<x.toNat)) with B | ⟨B,F⟩
     ·have p:(x.toNat:Int)<65:=by omega
      clear m k
      go_wp2
      go_ret
      exact ⟨by rw [l.o];rfl,(Br _ _).alloc (Lr _) _⟩
     ·have p:¬ (x.toNat:Int)<65:=by omega
      have z:(90:Int)<(x.toNat:Int):=by omega
      clear m k
      go_wp2
      go_ret
      exact ⟨by rw [l.o];rfl,(Br _ _).alloc (Lr _) _⟩
   ·have l:=Hh (TF v.o (fun h=>by omega))
    have b:=fun ty=>run_next_any (P:=prog) w s i ty r
    have A:128≤(Utf8.decode s i).1:=by
     rw [Lib.decode_N s i];exact PQ _ _ _ _ _ (by omega) (by rw [Cv,d];show 128≤x.toNat;omega)
    have u:=Hh A;generalize (Utf8.decode s i).1=y at b u;have p:¬ (y:Int)<65:=by have:=u.o;omega
    have z:(90:Int)<(y:Int):=by have:=u.o;omega
    clear A k d q t;generalize (Utf8.decode s i).2=G at b
    go_wp2
    go_ret
    exact ⟨by rw [l.o];rfl,(Br _ _).alloc (Lr _) _⟩
theorem WH (v:VD):aY v=(vU v.p.data.toList && xT v.f && inR v.a 15 && inR v.b 15 && inR v.z 16777215):=rfl
theorem rJ (v:VD) (w:World) (hv:CO v):Calls prog 43 #[.agg (vcs v)] w fun e w'=>e=.returned (.bool (aY v))∧Below w.heap.size w w':=by
 have FN:=Hh (fun s:World=>rX s)
 have G:=Hh (fun s:World=>VZ v.p s)
 have F:=Hh (fun s:World=>oP v.a 15 s)
 have D:=Hh (fun s:World=>oP v.b 15 s)
 have C:=Hh (fun s:World=>oP v.z 16777215 s)
 have E:=Hh (WH v);have W:=Hh hv.f;unfold vcs;clear hv
 go_enter func43,ntmps43
 go_upto_region 1 with fail
 generalize ae:w.alloc _=S;obtain ⟨Z,X⟩:=Al ae;clear ae;have y:=Hh Z;have I:=Hh X;refine aI (fun w'=>w'.cell? ⟨w.heap.size,3,none⟩=some (Iz v.f)) [2] (.take 1 (.take 2 (.ask 0 true (.ask 3 false (.take 4 (.take 5 (.take 6 (.take 7 (.take 8 .stop))))) .stop) .stop))) (by kernel_rfl) (by kernel_rfl) (fun _ d _ _ _ h=>by cases d <;> exact h) (dQ X).2.2.2.1 ?_
 have R:Below S.heap.size S S.drew:=(Br _ _).drew;have k:=Hh R;clear Z X R;generalize S.drew=wd at k ⊢;refine aF _ ?_ rfl rfl ?_ (fun K x=>?_);rotate_left;(intro w0;go_simp;(try rfl));(go_simp;refine x _ ?_;clear x K)
 refine aM _ ?_ rfl rfl (by decide) ?_ (fun K x=>?_);rotate_left;(intro w0 xa;go_simp;(try rfl));(go_simp;refine x _ ?_;clear x K)
 refine aH _ rfl trivial ?_;go_wp2_with (go_at_call 74;(with_reducible refine (FN.o _).mono ?_);rintro e B ⟨rfl,H,u⟩);refine Seg.mk ⟨(dQ (((k.o.trans (u.mono k.o.size)).block _ (Aa I.o)).trans I.o)).2.2.2.1,?_⟩;have A:=H.look2 W.o.1 W.o.2;have P:Below w.heap.size w B:=y.o.trans ((k.o.trans (u.mono k.o.size)).mono y.o.size);have l:=dQ (((k.o.trans (u.mono k.o.size)).block _ (Aa I.o)).trans I.o);have i:=Hh P;clear P k u H FN W y I;generalize wd.heap.size=m at A ⊢;obtain ⟨bF,O⟩:∃b,b=xT v.f:=⟨_,rfl⟩;rw [←O] at A E;clear O;refine aB _ rfl trivial ?_;go_wp2_with fail;refine Seg.mk ?_;clear A
 iterate 5 (refine aF _ ?_ rfl rfl ?_ (fun K x=>?_);rotate_left;(intro w0;go_simp;(try rfl));(go_simp;refine x _ ?_;clear x K))
 unfold cQ;obtain ⟨V,L⟩:∃b,b=vU v.p.data.toList:=⟨_,rfl⟩;obtain ⟨bA,N⟩:∃b,b=inR v.a 15:=⟨_,rfl⟩;obtain ⟨T,J⟩:∃b,b=inR v.b 15:=⟨_,rfl⟩;obtain ⟨M,Q⟩:∃b,b=inR v.z 16777215:=⟨_,rfl⟩;rw [←L] at G E;rw [←N] at F E;rw [←J] at D E;rw [←Q] at C E;clear L N J Q;have Y:∀b,(V && bF && bA && T && M)=b→aY v=b:=fun b h=>E.o.trans h
 have q:=Hh Y;clear Y E;cases bF with
 | false=>
  have r:Hid (aY v=false):=Hh (q.o _ (by cases V <;> rfl))
  clear q
  go_wp2
  go_ret
  exact ⟨by rw [r.o];rfl,i.o⟩
 | true=>
 cases V with
 | false=>
  have r:Hid (aY v=false):=Hh (q.o _ (by cases bA <;> cases T <;> cases M <;> rfl))
  clear q
  go_wp2_with (first
   | (go_at_call 75;(with_reducible refine (G.o _).mono ?_);rintro e U ⟨rfl,c⟩;go_loud ((have g:w.heap.size<B.heap.size:=cD l.1);(have t:=lO c g l);(have j:=Hh (i.o.trans (c.mono i.o.size)));clear l c g))
   | (go_at_call 76;(with_reducible refine (F.o _).mono ?_);rintro e n ⟨rfl,rfl⟩)
   | (go_at_call 76;(with_reducible refine (D.o _).mono ?_);rintro e n ⟨rfl,rfl⟩)
   | (go_at_call 76;(with_reducible refine (C.o _).mono ?_);rintro e n ⟨rfl,rfl⟩))
  go_ret
  exact ⟨by rw [r.o];rfl,j.o⟩
 | true=>
 cases bA with
 | false=>
  have r:Hid (aY v=false):=Hh (q.o _ (by cases T <;> cases M <;> rfl))
  clear q
  go_wp2_with (first
   | (go_at_call 75;(with_reducible refine (G.o _).mono ?_);rintro e U ⟨rfl,c⟩;go_loud ((have g:w.heap.size<B.heap.size:=cD l.1);(have t:=lO c g l);(have j:=Hh (i.o.trans (c.mono i.o.size)));clear l c g))
   | (go_at_call 76;(with_reducible refine (F.o _).mono ?_);rintro e n ⟨rfl,rfl⟩)
   | (go_at_call 76;(with_reducible refine (D.o _).mono ?_);rintro e n ⟨rfl,rfl⟩)
   | (go_at_call 76;(with_reducible refine (C.o _).mono ?_);rintro e n ⟨rfl,rfl⟩))
  go_ret
  exact ⟨by rw [r.o];rfl,j.o⟩
 | true=>
 cases T with
 | false=>
  have r:Hid (aY v=false):=Hh (q.o _ (by cases M <;> rfl))
  clear q
  go_wp2_with (first
   | (go_at_call 75;(with_reducible refine (G.o _).mono ?_);rintro e U ⟨rfl,c⟩;go_loud ((have g:w.heap.size<B.heap.size:=cD l.1);(have t:=lO c g l);(have j:=Hh (i.o.trans (c.mono i.o.size)));clear l c g))
   | (go_at_call 76;(with_reducible refine (F.o _).mono ?_);rintro e n ⟨rfl,rfl⟩)
   | (go_at_call 76;(with_reducible refine (D.o _).mono ?_);rintro e n ⟨rfl,rfl⟩)
   | (go_at_call 76;(with_reducible refine (C.o _).mono ?_);rintro e n ⟨rfl,rfl⟩))
  go_ret
  exact ⟨by rw [r.o];rfl,j.o⟩
 | true=>
 cases M with
 | false=>
  have r:Hid (aY v=false):=Hh (q.o _ (rfl));clear q
  go_wp2_with (first
   | (go_at_call 75;(with_reducible refine (G.o _).mono ?_);rintro e U ⟨rfl,c⟩;go_loud ((have g:w.heap.size<B.heap.size:=cD l.1);(have t:=lO c g l);(have j:=Hh (i.o.trans (c.mono i.o.size)));clear l c g))
   | (go_at_call 76;(with_reducible refine (F.o _).mono ?_);rintro e n ⟨rfl,rfl⟩)
   | (go_at_call 76;(with_reducible refine (D.o _).mono ?_);rintro e n ⟨rfl,rfl⟩)
   | (go_at_call 76;(with_reducible refine (C.o _).mono ?_);rintro e n ⟨rfl,rfl⟩))
  go_ret
  exact ⟨by rw [r.o];rfl,j.o⟩
 | true=>
  have r:Hid (aY v=true):=Hh (q.o _ rfl);clear q
  go_wp2_with (first
   | (go_at_call 75;(with_reducible refine (G.o _).mono ?_);rintro e U ⟨rfl,c⟩;go_loud ((have g:w.heap.size<B.heap.size:=cD l.1);(have t:=lO c g l);(have j:=Hh (i.o.trans (c.mono i.o.size)));clear l c g))
   | (go_at_call 76;(with_reducible refine (F.o _).mono ?_);rintro e n ⟨rfl,rfl⟩)
   | (go_at_call 76;(with_reducible refine (D.o _).mono ?_);rintro e n ⟨rfl,rfl⟩)
   | (go_at_call 76;(with_reducible refine (C.o _).mono ?_);rintro e n ⟨rfl,rfl⟩))
  go_ret
  exact ⟨by rw [r.o];rfl,j.o⟩
end Go.Proofs.YtncdpanfefnjlaaGreatDoor