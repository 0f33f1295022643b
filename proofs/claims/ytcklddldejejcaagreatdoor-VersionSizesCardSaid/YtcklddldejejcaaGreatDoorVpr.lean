/- Versions as data: their texts, and which strings are one. No program. -/
import Derived.Test.YtcklddldejejcaaGreatDoorJmap
import Derived.BigQuiet
import Derived.Lib.TrimUEq
import Derived.Laws.RangeString
import Derived.Laws.RangeAny
import Derived.Laws.Runes
import Derived.Deep.LoopGhost
import Derived.Lib.IndexBytes
import Derived.Lib.ValidLaws
set_option linter.unusedVariables false
set_option linter.unusedSimpArgs false
set_option maxHeartbeats 3200000
set_option maxRecDepth 100000
namespace Go.Proofs.YtcklddldejejcaaGreatDoor
open Go
structure VD where
 p:ByteArray
 a:Int
 b:Int
 f:Int
 z:Int
def v0:VD:=⟨⟨#[]⟩,0,0,0,0⟩
def capL (l:List UInt8):Bool:=decide (l.length=4) && l.all fun c=>decide (65≤c.toNat) && decide (c.toNat≤90)
def inR (z m:Int):Bool:=decide (0≤z) && decide (z≤m)
def validV (v:VD):Bool:=capL v.p.data.toList && (inR v.f 3 && !decide (v.f=0)) && inR v.a 15 && inR v.b 15 && inR v.z 16777215
def vhC (n:Nat):UInt8:=if n<10 then UInt8.ofNat (48+n) else UInt8.ofNat (87+n)
def vhL:Nat→Nat→List UInt8
 | 0,_=>[]
 | k+1,n=>vhL k (n / 16)++[vhC (n % 16)]
def vhD (c:UInt8):Option Nat:=if 48≤c.toNat∧c.toNat≤57 then some (c.toNat - 48) else if 97≤c.toNat∧c.toNat≤102 then some (c.toNat - 87) else none
def vhN (l:List UInt8):Option Nat:=l.foldl (fun o c=>o.bind fun n=>(vhD c).map fun d=>16 * n+d) (some 0)
theorem vhL_length:∀k n,(vhL k n).length=k
 | 0,_=>rfl
 | k+1,n=>by rw [vhL,Lg,vhL_length k];rfl
theorem vhN_snoc (l:List UInt8) (c:UInt8):vhN (l++[c])=(vhN l).bind fun n=>(vhD c).map fun d=>16 * n+d:=by unfold vhN;rw [List.foldl_append];rfl
theorem vhD_C (n:Nat) (h:n<16):vhD (vhC n)=some n:=by
 have:∀n:Fin 16,vhD (vhC n.1)=some n.1:=by decide
 exact this ⟨n,h⟩
theorem vhC_D {c:UInt8} {n:Nat} (h:vhD c=some n):vhC n=c∧n<16:=by
 have:∀k:Fin 256,∀n,vhD (UInt8.ofNat k.1)=some n→vhC n=UInt8.ofNat k.1∧n<16:=by
  have key:∀k:Fin 256,(match vhD (UInt8.ofNat k.1) with | some n=>decide (vhC n=UInt8.ofNat k.1∧n<16) | none=>true)=true:=by decide +kernel
  intro k n h
  have:=key k
  rw [h] at this
  exact of_decide_eq_true this
 have hc:=this ⟨c.toNat,c.toNat_lt⟩ n
 rw [show UInt8.ofNat c.toNat=c from UInt8.ofNat_toNat] at hc
 exact hc h
theorem vhN_L:∀k n,n<16 ^ k→vhN (vhL k n)=some n
 | 0,n,h=>by
  have:n=0:=by simpa using h
  subst this;rfl
 | k+1,n,h=>by
  rw [vhL,vhN_snoc,vhN_L k (n / 16) (by rw [Nat.pow_succ] at h;omega),vhD_C _ (Nat.mod_lt _ (by decide))]
  show some (16 * (n / 16)+n % 16)=_
  congr 1;omega
theorem vhL_N:∀ (k:Nat) (l:List UInt8) (n:Nat),l.length=k→vhN l=some n→vhL k n=l∧n<16 ^ k
 | 0,l,n,hl,h=>by
  rw [List.length_eq_zero_iff.1 hl] at h ⊢
  cases h;exact ⟨rfl,by decide⟩
 | k+1,l,n,hl,h=>by
  have hne:l ≠ []:=by intro e;subst e;cases hl
  rw [←List.dropLast_concat_getLast hne] at h ⊢
  have hdl:l.dropLast.length=k:=by rw [List.length_dropLast];omega
  generalize l.dropLast=t at h hdl ⊢
  generalize l.getLast hne=c at h ⊢
  rw [vhN_snoc] at h
  cases ht:vhN t with
  | none=>rw [ht] at h;cases h
  | some m=>
   cases hd:vhD c with
   | none=>rw [ht,hd] at h;cases h
   | some d=>
    rw [ht,hd] at h
    have h:16 * m+d=n:=Option.some.inj h
    obtain ⟨ih1,ih2⟩:=vhL_N k t m hdl ht
    obtain ⟨hc,hd16⟩:=vhC_D hd
    subst h
    refine ⟨?_,by rw [Nat.pow_succ];omega⟩
    rw [vhL,show (16 * m+d) / 16=m by omega,show (16 * m+d) % 16=d by omega,ih1,hc]
def formL (f:Int):List UInt8:=if f=1 then [74,83,79,78] else if f=2 then [67,66,79,82] else if f=3 then [77,71,80,75] else []
def formN (l:List UInt8):Int:=if l=[74,83,79,78] then 1 else if l=[67,66,79,82] then 2 else if l=[77,71,80,75] then 3 else 0
def textV (v:VD):List UInt8:=v.p.data.toList++(vhL 1 v.a.toNat++(vhL 1 v.b.toNat++(formL v.f++(vhL 6 v.z.toNat++[95]))))
def vtS (v:VD):ByteArray:=if validV v then ⟨(textV v).toArray⟩ else ⟨#[]⟩
def vtE (v:VD):Int:=if validV v then 0 else 2
def parseV (l:List UInt8):Option VD:=
 if l.length=17 then
  match vhN ((l.drop 4).take 1),vhN ((l.drop 5).take 1),vhN ((l.drop 10).take 6) with
  | some a,some b,some z=>if validV ⟨⟨(l.take 4).toArray⟩,a,b,formN ((l.drop 6).take 4),z⟩∧l.drop 16=[95] then some ⟨⟨(l.take 4).toArray⟩,a,b,formN ((l.drop 6).take 4),z⟩ else none
  | _,_,_=>none
 else none
def pvV (l:List UInt8):VD:=(parseV l).getD v0
def pvE (l:List UInt8):Int:=if (parseV l).isSome then 0 else 10
theorem validV_parts {v:VD} (h:validV v=true):v.p.data.toList.length=4∧(v.f=1∨v.f=2∨v.f=3)∧(0≤v.a∧v.a≤15)∧(0≤v.b∧v.b≤15)∧0≤v.z∧v.z≤16777215:=by
 unfold validV capL inR at h
 simp only [Bool.and_eq_true,decide_eq_true_eq,Bool.not_eq_true',decide_eq_false_iff_not] at h
 obtain ⟨⟨⟨⟨⟨h1,h2⟩,h3⟩,h4⟩,h5⟩,h6⟩:=h
 exact ⟨h1,by omega,h4,h5,h6⟩
theorem parts17 {P A B F Z E:List UInt8} (hP:P.length=4) (hA:A.length=1) (hB:B.length=1) (hF:F.length=4) (hZ:Z.length=6) (hE:E.length=1) :
 (P++(A++(B++(F++(Z++E))))).length=17∧(P++(A++(B++(F++(Z++E))))).take 4=P∧((P++(A++(B++(F++(Z++E))))).drop 4).take 1=A∧((P++(A++(B++(F++(Z++E))))).drop 5).take 1=B∧((P++(A++(B++(F++(Z++E))))).drop 6).take 4=F∧((P++(A++(B++(F++(Z++E))))).drop 10).take 6=Z∧(P++(A++(B++(F++(Z++E))))).drop 16=E:=by
 refine ⟨by simp only [Lg];omega,?_,?_,?_,?_,?_,?_⟩ <;>
  simp [List.take_append,List.drop_append,hP,hA,hB,hF,hZ,hE,List.take_of_length_le,List.drop_eq_nil_of_le]
theorem formL_len {f:Int} (h:f=1∨f=2∨f=3):(formL f).length=4∧formN (formL f)=f:=by rcases h with rfl | rfl | rfl <;> decide
theorem textV_length {v:VD} (h:validV v=true):(textV v).length=17:=by
 obtain ⟨h1,h2,h3,h4,h5⟩:=validV_parts h
 exact (parts17 h1 (vhL_length 1 _) (vhL_length 1 _) (formL_len h2).1 (vhL_length 6 _) rfl).1
theorem parse_text {v:VD} (h:validV v=true):parseV (textV v)=some v:=by
 obtain ⟨h1,h2,h3,h4,h5⟩:=validV_parts h
 obtain ⟨q0,q1,q2,q3,q4,q5,q6⟩:=parts17 h1 (vhL_length 1 v.a.toNat) (vhL_length 1 v.b.toNat) (formL_len h2).1 (vhL_length 6 v.z.toNat) (E:=[95]) rfl
 have e:(⟨⟨v.p.data.toList.toArray⟩,(v.a.toNat:Int),(v.b.toNat:Int),v.f,(v.z.toNat:Int)⟩:VD)=v:=by
  obtain ⟨⟨⟨p⟩⟩,a,b,f,z⟩:=v
  simp only at h3 h4 h5 ⊢
  rw [Int.toNat_of_nonneg h3.1,Int.toNat_of_nonneg h4.1,Int.toNat_of_nonneg h5.1]
 unfold parseV
 rw [if_pos (show (textV v).length=17 from q0)]
 unfold textV at *
 rw [q1,q2,q3,q4,q5,q6,vhN_L 1 _ (by omega),vhN_L 1 _ (by omega),vhN_L 6 _ (by omega),(formL_len h2).2]
 show (if _ then _ else _)=_
 rw [e,if_pos ⟨h,rfl⟩]
theorem parse_inv {l:List UInt8} {v:VD} (h:parseV l=some v):validV v=true∧textV v=l:=by
 unfold parseV at h
 split at h
 ·rename_i hl
  split at h
  ·rename_i a b z ha hb hz
   split at h
   ·rename_i hv
    cases h
    refine ⟨hv.1,?_⟩
    obtain ⟨h1,h2,h3,h4,h5⟩:=validV_parts hv.1
    have e1:=(vhL_N 1 _ _ (by simp;omega) ha).1
    have e2:=(vhL_N 1 _ _ (by simp;omega) hb).1
    have e3:=(vhL_N 6 _ _ (by simp;omega) hz).1
    have e4:formL (formN ((l.drop 6).take 4))=(l.drop 6).take 4:=by
     have h2:formN ((l.drop 6).take 4)=1∨formN ((l.drop 6).take 4)=2∨formN ((l.drop 6).take 4)=3:=h2
     generalize (l.drop 6).take 4=x at h2 ⊢
     unfold formN at h2 ⊢
     split at h2
     ·rename_i e;rw [if_pos e,e];rfl
     ·rename_i e1;rw [if_neg e1];split at h2
      ·rename_i e;rw [if_pos e,e];rfl
      ·rename_i e2;rw [if_neg e2];split at h2
       ·rename_i e;rw [if_pos e,e];rfl
       ·omega
    show l.take 4++(vhL 1 ((a:Int).toNat)++(vhL 1 ((b:Int).toNat)++(formL (formN ((l.drop 6).take 4))++(vhL 6 ((z:Int).toNat)++[95]))))=l
    rw [Int.toNat_natCast,Int.toNat_natCast,Int.toNat_natCast,e1,e2,e3,e4,←hv.2]
    have d5:(l.drop 10).take 6++l.drop 16=l.drop 10:=by rw [show l.drop 16=(l.drop 10).drop 6 by rw [List.drop_drop],List.take_append_drop]
    have d4:(l.drop 6).take 4++l.drop 10=l.drop 6:=by rw [show l.drop 10=(l.drop 6).drop 4 by rw [List.drop_drop],List.take_append_drop]
    have d3:(l.drop 5).take 1++l.drop 6=l.drop 5:=by rw [show l.drop 6=(l.drop 5).drop 1 by rw [List.drop_drop],List.take_append_drop]
    have d2:(l.drop 4).take 1++l.drop 5=l.drop 4:=by rw [show l.drop 5=(l.drop 4).drop 1 by rw [List.drop_drop],List.take_append_drop]
    rw [d5,d4,d3,d2,List.take_append_drop]
   ·cases h
  ·cases h
 ·cases h
theorem parse_iff {l:List UInt8} {v:VD}:parseV l=some v↔validV v=true∧textV v=l:=
 ⟨parse_inv,fun h=>h.2 ▸ parse_text h.1⟩
def findV (l:List UInt8):Nat→Nat→Option (VD × Nat)
 | 0,_=>none
 | n+1,i=>if i+17≤l.length then match parseV ((l.drop i).take 17) with
  | some v=>some (v,i)
  | none=>findV l n (i+1)
  else none
def fdV (l:List UInt8):VD:=match findV l 25 0 with | some x=>x.1 | none=>v0
def fdP (l:List UInt8):Int:=match findV l 25 0 with | some x=>(x.2:Int) | none=>0
def fdE (l:List UInt8):Int:=if (findV l 25 0).isSome then 0 else 10
theorem findV_skip (l:List UInt8):∀ (k n i:Nat),(∀j,i≤j→j<i+k→parseV ((l.drop j).take 17)=none)→i+k+17≤l.length→findV l (k+n) i=findV l n (i+k)
 | 0,n,i,_,_=>by rw [Nat.zero_add,Nat.add_zero]
 | k+1,n,i,h,hl=>by
  rw [show k+1+n=(k+n)+1 by omega,findV,if_pos (by omega),h i (Lr _) (by omega)]
  rw [show i+(k+1)=i+1+k by omega]
  exact findV_skip l k n (i+1) (fun j h1 h2=>h j (by omega) (by omega)) (by omega)
theorem parse_cap {l:List UInt8} (h:capL (l.take 4)=false):parseV l=none:=by
 cases hp:parseV l with
 | none=>rfl
 | some v=>
  obtain ⟨h1,h2⟩:=parse_inv hp
  have h4:=(validV_parts h1).1
  have:v.p.data.toList=l.take 4:=by rw [←h2];unfold textV;rw [List.take_append_of_le_length (by omega),List.take_of_length_le (by omega)]
  unfold validV at h1
  rw [this,h] at h1
  cases h1
end Go.Proofs.YtcklddldejejcaaGreatDoor
namespace Go.Proofs.YtcklddldejejcaaGreatDoor
open Go Go.Maps Go.ChangeShapes Go.WideShapes Go.ChangeAt Go.RowKit
def fmD:DataW Unit:=(((DataW.map []).put (.int .i64 1) (.lit (.string [74,83,79,78]))).put (.int .i64 2) (.lit (.string [67,66,79,82]))).put (.int .i64 3) (.lit (.string [77,71,80,75]))
def isFm (f:Int):Bool:=inR f 3 && !decide (f=0)
theorem isFm_cases (f:Int):(isFm f=true∧(f=1∨f=2∨f=3))∨(isFm f=false∧f ≠ 1∧f ≠ 2∧f ≠ 3∧formL f=[]):=by
 unfold isFm inR
 by_cases h1:f=1
 ·subst h1;exact .inl ⟨rfl,by decide⟩
 by_cases h2:f=2
 ·subst h2;exact .inl ⟨rfl,by decide⟩
 by_cases h3:f=3
 ·subst h3;exact .inl ⟨rfl,by decide⟩
 refine .inr ⟨?_,h1,h2,h3,by unfold formL;rw [if_neg h1,if_neg h2,if_neg h3]⟩
 cases e:decide (f=0)
 ·have:=of_decide_eq_false e
  by_cases h0:0≤f
  ·rw [decide_eq_true h0,decide_eq_false (by omega)];rfl
  ·rw [decide_eq_false h0];rfl
 ·rw [Bool.not_true,Bool.and_false]
theorem fm_look (f:Int):Maps.has fmD (.int .i64 f)=isFm f∧∀z,fmD.atKey (.int .i64 f) z=if isFm f then .lit (.string (formL f)) else z:=by
 have i0:IsMap (.map []:DataW Unit):=isMap_empty
 have i1:=i0.put (.int .i64 1) (.lit (.string [74,83,79,78]))
 have i2:=i1.put (.int .i64 2) (.lit (.string [67,66,79,82]))
 unfold fmD
 refine ⟨?_,fun z=>?_⟩
 ·rw [putZ_has i2,putZ_has i1,putZ_has i0,show Maps.has (.map []:DataW Unit) (.int .i64 f)=false from rfl]
  rcases isFm_cases f with ⟨h,rfl | rfl | rfl⟩ | ⟨h,h1,h2,h3,-⟩
  ·rfl
  ·rfl
  ·rfl
  ·rw [h,decide_eq_false h1,decide_eq_false h2,decide_eq_false h3];rfl
 ·rw [putZ_at i2,putZ_at i1,putZ_at i0,show (.map []:DataW Unit).atKey (.int .i64 f) z=z from rfl]
  rcases isFm_cases f with ⟨h,rfl | rfl | rfl⟩ | ⟨h,h1,h2,h3,-⟩
  ·rfl
  ·rfl
  ·rfl
  ·rw [h,if_neg h1,if_neg h2,if_neg h3];rfl
theorem lawI64:Keyed Tryz.prog 3:=int_keyed Tryz.underlying3
theorem zeroStrV (w:World):(zeroValue 9).run Tryz.prog w=.ok (.string ⟨#[]⟩) w:=by kernel_rfl
def Fnames (w:World) (m:Nat):Prop:=w.ownsMap Tryz.prog 3 (plainElem (H:=Unit) Tryz.prog 9) m 3 fmD
theorem Fnames.kept {w w':World} {m:Nat} {row:Option Nat} (h:Fnames w m) (hg:w.grownBy w' row) (hne:some m ≠ row):Fnames w' m:=World.ownsMap.kept h hg hne
theorem Fnames.below {w w':World} {m:Nat} (h:Fnames w m) (hb:Below w.heap.size w w'):Fnames w' m:=h.kept (grown_of_below hb (Lr _) none) (by simp)
theorem Fnames.lt {w:World} {m:Nat} (h:Fnames w m):m<w.heap.size:=World.ownsMap.lt h
theorem Fnames.look {w:World} {m:Nat} (h:Fnames w m) {f:Int} (hf:-9223372036854775808≤f) (hf2:f≤9223372036854775807):(∃v ps,(Instr.lookup 85 (.map (some m)) (.int .i64 f) true).run Tryz.prog w=.ok (.tuple #[v,.bool (Maps.has fmD (.int .i64 f))]) w∧plainElem (H:=Unit) Tryz.prog 9 v=some (fmD.atKey (.int .i64 f) (.lit (.string [])),ps)):=by
 have hwf:(Lit.int IntKind.i64 f).wf=true:=by simp [Lit.wf,IntKind.min,IntKind.max,IntKind.signed,IntKind.bits];omega
 exact World.ownsMap.look_ok h lawI64 Tryz.underlying85 (zeroStrV w) (plainElem_string Tryz.underlying9 (by decide)) (keyOf_int_mk Tryz.underlying3 hwf)
theorem fm_str {f:Int} {v:Value} {ps:List MemPlace} (hv:plainElem (H:=Unit) Tryz.prog 9 v=some (fmD.atKey (.int .i64 f) (.lit (.string [])),ps)):v=.string ⟨(formL f).toArray⟩:=by
 obtain ⟨s,rfl,e',_⟩:=plainElem_string_inv Tryz.underlying9 hv
 rw [(fm_look f).2] at e'
 have hs:s=⟨(formL f).toArray⟩:=by
  rcases isFm_cases f with ⟨hq,-⟩ | ⟨hq,-,-,-,h0⟩
  ·rw [hq,if_pos rfl] at e'
   simp only [Prod.mk.injEq,DataW.lit.injEq,Lit.string.injEq] at e'
   exact ByteArray.ext (Array.toList_inj.1 e'.1.symm)
  ·rw [hq,if_neg (by decide)] at e'
   simp only [Prod.mk.injEq,DataW.lit.injEq,Lit.string.injEq] at e'
   rw [h0]
   exact ByteArray.ext (Array.toList_inj.1 e'.1.symm)
 rw [hs]
theorem Fnames.look2 {w:World} {m:Nat} (h:Fnames w m) {f:Int} (hf:-9223372036854775808≤f) (hf2:f≤9223372036854775807):(Instr.lookup 85 (.map (some m)) (.int .i64 f) true).run Tryz.prog w=.ok (.tuple #[.string ⟨(formL f).toArray⟩,.bool (isFm f)]) w:=by
 obtain ⟨v,ps,hrun,hv⟩:=h.look hf hf2
 rw [hrun,fm_str hv,(fm_look f).1]
theorem Fnames.look1 {w:World} {m:Nat} (h:Fnames w m) {f:Int} (hf:-9223372036854775808≤f) (hf2:f≤9223372036854775807):(Instr.lookup 85 (.map (some m)) (.int .i64 f) false).run Tryz.prog w=.ok (.string ⟨(formL f).toArray⟩) w:=by
 have hwf:(Lit.int IntKind.i64 f).wf=true:=by simp [Lit.wf,IntKind.min,IntKind.max,IntKind.signed,IntKind.bits];omega
 obtain ⟨v,ps,hrun,hv⟩:=World.ownsMap.lookup h lawI64 Tryz.underlying85 (zeroStrV w) (plainElem_string Tryz.underlying9 (by decide)) (keyOf_int_mk Tryz.underlying3 hwf)
 rw [hrun,fm_str hv]
theorem fnames_any (w:World):Calls Tryz.prog 71 #[] w fun e w'=>e=.returned (.map (some w.heap.size))∧Fnames w' w.heap.size∧Below w.heap.size w w':=by
 have hmm:=@run_makeMap Tryz.prog
 have h0:=World.ownsMap_made (H:=Unit) w Tryz.prog 3 (plainElem (H:=Unit) Tryz.prog 9)
 have b0:=(Br w.heap.size w).alloc (o:=.map #[] 0) (Lr _)
 have H0:=Hh h0
 have B0:=Hh b0
 clear h0 b0
 go_enter Tryz.func71,Tryz.ntmps71
 go_wp2_with (first
  | (refine wpList_insert_own _ rfl _ _ _ 85 rfl 3 9 lawI64 Tryz.underlying85 _ w.heap.size 2 _ rfl h2 (by unfold maxLen;omega) _ _ _ rfl rfl (keyOf_int_mk Tryz.underlying3 (a:=3) (by decide)) _ [] (plainElem_string Tryz.underlying9 (s:=⟨#[77,71,80,75]⟩) (by decide)) ?_;intro w3 h3 g3;(have b3:=gbelow b2 g3 (b2.size) (Lr _)))
  | (refine wpList_insert_own _ rfl _ _ _ 85 rfl 3 9 lawI64 Tryz.underlying85 _ w.heap.size 1 _ rfl h1 (by unfold maxLen;omega) _ _ _ rfl rfl (keyOf_int_mk Tryz.underlying3 (a:=2) (by decide)) _ [] (plainElem_string Tryz.underlying9 (s:=⟨#[67,66,79,82]⟩) (by decide)) ?_;intro w2 h2 g2;(have b2:=gbelow b1 g2 (b1.size) (Lr _)))
  | (refine wpList_insert_own _ rfl _ _ _ 85 rfl 3 9 lawI64 Tryz.underlying85 _ w.heap.size 0 _ rfl H0.out (by unfold maxLen;omega) _ _ _ rfl rfl (keyOf_int_mk Tryz.underlying3 (a:=1) (by decide)) _ [] (plainElem_string Tryz.underlying9 (s:=⟨#[74,83,79,78]⟩) (by decide)) ?_;intro w1 h1 g1;(have b1:=gbelow B0.out g1 (B0.out.size) (Lr _))))
 go_ret
 exact ⟨rfl,h3,b3⟩
def FoSt (l:List UInt8) (left:Lit→Bool):Prop:=∀f:Int,isFm f=true→left (.int .i64 f)=false→formL f ≠ l
theorem formN_hit {f:Int} {l:List UInt8} (h:isFm f=true) (e:formL f=l):formN l=f:=by
 rcases isFm_cases f with ⟨-,h'⟩ | ⟨h',-⟩
 ·rw [←e];exact (formL_len h').2
 ·rw [h] at h';cases h'
theorem formN_miss {l:List UInt8} (h:∀f:Int,isFm f=true→formL f ≠ l):formN l=0:=by
 unfold formN
 rw [if_neg (fun e=>h 1 rfl e.symm),if_neg (fun e=>h 2 rfl e.symm),if_neg (fun e=>h 3 rfl e.symm)]
theorem fof_any (s:ByteArray) (w:World):Calls Tryz.prog 80 #[.string s] w fun e w'=>e=.returned (.int .i64 (formN s.data.toList))∧Below w.heap.size w w':=by
 have FN:=Hh (fnames_any w)
 obtain ⟨m,hm⟩:∃m,m=w.heap.size:=⟨_,rfl⟩
 rw [←hm] at FN
 have HM:=Hh hm
 clear hm
 go_enter Tryz.func80,Tryz.ntmps80
 go_upto_region 2 with (first
  | (go_at_call 71;(with_reducible refine (FN.out).mono ?_);rintro e w2 ⟨rfl,hl2,hb2⟩)
  | (at_range;refine wpList_range_own _ rfl _ 85 rfl 3 9 lawI64 Tryz.underlying85 _ _ 3 _ rfl hl2 ?_;intro w3 hrg0 hg0 hs0)
  | go_in)
 go_frame
 have hm:=HM.out
 have hb3:Below w.heap.size w w3:=by rw [hm] at hb2;exact hb2.grown hg0 hb2.size (fun j hj=>by cases hj)
 have hr:m<w2.heap.size:=hl2.lt
 obtain ⟨r,hrr⟩:∃r,r=w2.heap.size:=⟨_,rfl⟩
 have hwr:w.heap.size≤r:=by omega
 rw [←hrr] at hrg0 hs0 hr ⊢
 clear hb2 hl2 hg0 FN hrr hm HM
 have HB:=Hh hb3
 clear hb3
 go_loopw [3,4] (fun _ _ wr=>∃ (left:Lit→Bool) (cnt:Nat),wr.ranges Tryz.prog 3 (plainElem (H:=Unit) Tryz.prog 9) m r 3 fmD left cnt∧FoSt s.data.toList left∧Below w.heap.size w wr) (fun _ _ wr=>wr.rangeLeft m r)
 case atStart=>
  refine ⟨_,_,hrg0,fun f hf hl=>?_,HB.out⟩
  have:=(fm_look f).1
  rw [hf] at this
  rw [this] at hl
  cases hl
 case round=>
  obtain ⟨left,cnt,hrg,hA,hnx⟩:=hrel
  go_wp2_with (first
   | (at_next;refine wpList_next_ranges_is _ rfl _ rfl 3 9 .i64 lawI64 Tryz.underlying3 Tryz.underlying9 m r 3 _ _ _ rfl hrg ?_ ?_)
   | go_in)
  ·intro hc0 hl0
   have e:=formN_miss fun f hf=>hA f hf (hl0 _)
   have E:=Hh e
   clear e
   go_wp2
   go_ret
   exact ⟨by rw [E.out];rfl,hnx⟩
  ·intro x c w1 cnt1 hwx hwc hlx hat hrg1 hlt hg1 hs1 hen
   have hx:isFm x=true∧formL x=c.data.toList:=by
    have h:=(fm_look x).2 (.lit (.bool true))
    rw [hat] at h
    rcases isFm_cases x with ⟨q,-⟩ | ⟨q,-⟩
    ·rw [q,if_pos rfl] at h
     simp only [DataW.lit.injEq,Lit.string.injEq] at h
     exact ⟨q,h.symm⟩
    ·rw [q,if_neg (by decide)] at h
     cases h
   have hb1:=hnx.grown hg1 hnx.size (fun j hj=>by cases hj;exact hwr)
   have HX:=Hh hx
   have HB1:=Hh hb1
   clear hx hb1 hat hwx hwc
   by_cases hq:c=s
   ·have q1:(c.toList == s.toList)=true:=by rw [hq];exact beq_self_eq_true _
    have E:Hid (formN s.data.toList=x):=Hh (formN_hit HX.out.1 (by rw [HX.out.2,hq]))
    clear hq
    go_wp2
    go_ret
    exact ⟨by rw [E.out];rfl,HB1.out⟩
   ·have q1:(c.toList == s.toList)=false:=by
     rw [beq_eq_false_iff_ne,Lib.toList_data,Lib.toList_data]
     intro e;exact hq (ByteArray.ext (Array.toList_inj.1 e))
    have HN:Hid (formL x ≠ s.data.toList):=Hh fun e=>hq (ByteArray.ext (Array.toList_inj.1 (HX.out.2.symm.trans e)))
    have HA:=Hh hA
    clear hq hA
    go_wp2
    go_roundw
    case rel=>
     refine ⟨_,cnt1,hrg1,fun f hf hl=>?_,HB1.out⟩
     cases e:left (.int .i64 f) with
     | false=>exact HA.out f hf e
     | true=>
      have hl:(left (.int .i64 f) && !(Lit.int IntKind.i64 f).sameKey (.int .i64 x))=false:=hl
      rw [e,Bool.true_and] at hl
      have:(Lit.int IntKind.i64 f).sameKey (.int .i64 x)=true:=by simpa using hl
      have:f=x:=by simpa [Lit.sameKey] using this
      rw [this];exact HN.out
    case measure=>rw [hrg1.left_eq,hrg.left_eq];exact hlt
theorem vheap_set {w:World} {g j:Nat} {cs:Array Value} {T:TypeId} (h:w.heap[g]?=some (.cells cs T (0,0))) (x:Value):(w.setCell ⟨g,j,none⟩ x).heap[g]?=some (.cells (cs.setIfInBounds j x) T (0,0)):=by
 have hlt:=lt_of_block h
 have h':w.heap[g]=.cells cs T (0,0):=by simpa [Array.getElem?_eq_getElem hlt] using h
 show (w.heap.modify g _)[g]?=_
 rw [Array.getElem?_eq_getElem (by simpa using hlt),Array.getElem_modify_self,h']
 rfl
theorem vgrown_set (w:World) (g j:Nat) (v:Value):w.grownBy (w.setCell ⟨g,j,none⟩ v) (some g):=
 ⟨rfl,rfl,rfl,by simp,fun i hi hne=>heap_setCell_other w ⟨g,j,none⟩ i v (show i ≠ g from fun e=>hne (by rw [e]))⟩
section
variable {w:World} {g:Nat} {a b c d e:Value} {T:TypeId}
theorem five_of (h:w.heap[g]?=some (.cells #[a,b,c,d,e] T (0,0))):w.cell? ⟨g,0,none⟩=some a∧w.cell? ⟨g,1,none⟩=some b∧w.cell? ⟨g,2,none⟩=some c∧w.cell? ⟨g,3,none⟩=some d∧w.cell? ⟨g,4,none⟩=some e:=by
 simp [World.cell?,h]
theorem free_five (h:w.heap[g]?=some (.cells #[a,b,c,d,e] T (0,0))):w.frozen? ⟨g,0,none⟩=false∧w.frozen? ⟨g,1,none⟩=false∧w.frozen? ⟨g,2,none⟩=false∧w.frozen? ⟨g,3,none⟩=false∧w.frozen? ⟨g,4,none⟩=false:=by
 simp [World.frozen?,h]
theorem five_keep {w':World} {B:Nat} (hb:Below B w w') (hg:g<B) (h:w.cell? ⟨g,0,none⟩=some a∧w.cell? ⟨g,1,none⟩=some b∧w.cell? ⟨g,2,none⟩=some c∧w.cell? ⟨g,3,none⟩=some d∧w.cell? ⟨g,4,none⟩=some e):w'.cell? ⟨g,0,none⟩=some a∧w'.cell? ⟨g,1,none⟩=some b∧w'.cell? ⟨g,2,none⟩=some c∧w'.cell? ⟨g,3,none⟩=some d∧w'.cell? ⟨g,4,none⟩=some e:=
 ⟨(hb.cell (p:=⟨g,0,none⟩) hg).trans h.1,(hb.cell (p:=⟨g,1,none⟩) hg).trans h.2.1,(hb.cell (p:=⟨g,2,none⟩) hg).trans h.2.2.1,(hb.cell (p:=⟨g,3,none⟩) hg).trans h.2.2.2.1,(hb.cell (p:=⟨g,4,none⟩) hg).trans h.2.2.2.2⟩
def set5 (w:World) (g:Nat) (a b c d e:Value):World:=((((w.setCell ⟨g,0,none⟩ a).setCell ⟨g,1,none⟩ b).setCell ⟨g,2,none⟩ c).setCell ⟨g,3,none⟩ d).setCell ⟨g,4,none⟩ e
theorem five_put (h:w.heap[g]?=some (.cells #[a,b,c,d,e] T (0,0))) (a' b' c' d' e':Value):(set5 w g a' b' c' d' e').heap[g]?=some (.cells #[a',b',c',d',e'] T (0,0)):=by
 have h1:(w.setCell ⟨g,0,none⟩ a').heap[g]?=some (.cells #[a',b,c,d,e] T (0,0)):=vheap_set h a'
 have h2:((w.setCell ⟨g,0,none⟩ a').setCell ⟨g,1,none⟩ b').heap[g]?=some (.cells #[a',b',c,d,e] T (0,0)):=vheap_set h1 b'
 have h3:(((w.setCell ⟨g,0,none⟩ a').setCell ⟨g,1,none⟩ b').setCell ⟨g,2,none⟩ c').heap[g]?=some (.cells #[a',b',c',d,e] T (0,0)):=vheap_set h2 c'
 have h4:((((w.setCell ⟨g,0,none⟩ a').setCell ⟨g,1,none⟩ b').setCell ⟨g,2,none⟩ c').setCell ⟨g,3,none⟩ d').heap[g]?=some (.cells #[a',b',c',d',e] T (0,0)):=vheap_set h3 d'
 exact vheap_set h4 e'
theorem grown_set5 (w:World) (g:Nat) (a b c d e:Value):w.grownBy (set5 w g a b c d e) (some g):=
 gtrans (gtrans (gtrans (gtrans (vgrown_set w g 0 a) (vgrown_set _ g 1 b)) (vgrown_set _ g 2 c)) (vgrown_set _ g 3 d)) (vgrown_set _ g 4 e)
end
def vcs (v:VD):Array Value:=#[.string v.p,.int .i64 v.a,.int .i64 v.b,.int .i64 v.f,.int .i64 v.z]
def wI (z:Int):Prop:=-9223372036854775808≤z∧z≤9223372036854775807
structure WideV (v:VD):Prop where
 a:wI v.a
 b:wI v.b
 f:wI v.f
 z:wI v.z
theorem vwithin_any (z m:Int) (w:World):Calls Tryz.prog 73 #[.int .i64 z,.int .i64 m] w fun e w'=>e=.returned (.bool (inR z m))∧w=w':=by
 go_enter Tryz.func73,Tryz.ntmps73
 by_cases h0:0≤z
 ·by_cases h1:z≤m
  ·have E:Hid (inR z m=true):=Hh (by unfold inR;rw [decide_eq_true h0,decide_eq_true h1];rfl)
   go_wp2
   go_ret
   exact ⟨by rw [E.out];rfl,rfl⟩
  ·have E:Hid (inR z m=false):=Hh (by unfold inR;rw [decide_eq_true h0,decide_eq_false h1];rfl)
   go_wp2
   go_ret
   exact ⟨by rw [E.out];rfl,rfl⟩
 ·have E:Hid (inR z m=false):=Hh (by unfold inR;rw [decide_eq_false h0];rfl)
  go_wp2
  go_ret
  exact ⟨by rw [E.out];rfl,rfl⟩
theorem capL_snoc (l:List UInt8):capL l=(decide (l.length=4) && l.all fun c=>decide (65≤c.toNat) && decide (c.toNat≤90)):=rfl
theorem vdecN_high (n b0 b1 b2 b3:Nat) (hn:1≤n) (h0:128≤b0):128≤(Lib.decodeN n b0 b1 b2 b3).1:=by
 unfold Lib.decodeN
 rw [if_neg (by omega)]
 split
 ·split
  ·assumption
  ·decide
 ·split
  ·split
   ·show 128≤_;omega
   ·decide
  ·split
   ·split
    ·show 128≤_;omega
    ·decide
   ·decide
theorem cap_no {l:List UInt8} {c:UInt8} {i:Nat} (h:l[i]?=some c) (hc:¬ (65≤c.toNat∧c.toNat≤90)):capL l=false:=by
 unfold capL
 rw [Bool.and_eq_false_iff]
 refine .inr ?_
 rw [List.all_eq_false]
 refine ⟨c,List.mem_of_getElem? h,?_⟩
 intro e
 rw [Bool.and_eq_true,decide_eq_true_eq,decide_eq_true_eq] at e
 exact hc e
theorem vprot_any (s:ByteArray) (w:World):Calls Tryz.prog 72 #[.string s] w fun e w'=>e=.returned (.bool (capL s.data.toList))∧Below w.heap.size w w':=by
 have hl:s.data.toList.length=s.size:=by rw [Array.length_toList];rfl
 go_enter Tryz.func72,Tryz.ntmps72
 go_upto_region 2 with fail
 go_loopg [4] s.size (fun g _ wx=>∃i:Nat,i+g=s.size∧wx=w.iter s i∧Hid ((s.data.toList.take i).all (fun c=>decide (65≤c.toNat) && decide (c.toNat≤90))=true))
 case atStart=>exact ⟨0,by omega,rfl,Hh rfl⟩
 case round=>
  obtain ⟨i,hig,rfl,hA⟩:=hrel
  cases gk with
  | zero=>
   obtain rfl:i=s.size:=by omega
   have hnx:=run_next_end (P:=Tryz.prog) w s s.size
   have hA2:=hA.out
   rw [List.take_of_length_le (by omega)] at hA2
   have hcap:Hid (capL s.data.toList=decide (s.size=4)):=Hh (by rw [capL_snoc,hA2,hl,Bool.and_true])
   clear hA hA2 hl
   by_cases h4:s.size=4
   ·have q1:((s.size:Int) == 4)=true:=by rw [h4];rfl
    have E:Hid (capL s.data.toList=true):=Hh (by rw [hcap.out,decide_eq_true h4])
    clear h4 hcap
    go_wp2
    go_ret
    exact ⟨by rw [E.out];rfl,(Br _ _).alloc (Lr _) _⟩
   ·have q1:((s.size:Int) == 4)=false:=by simp;omega
    have E:Hid (capL s.data.toList=false):=Hh (by rw [hcap.out,decide_eq_false h4])
    clear h4 hcap
    go_wp2
    go_ret
    exact ⟨by rw [E.out];rfl,(Br _ _).alloc (Lr _) _⟩
  | succ g=>
   have hi:i<s.size:=by omega
   obtain ⟨x,hx⟩:∃x:UInt8,s[i]'hi=x:=⟨_,rfl⟩
   have hxl:s.data.toList[i]?=some x:=by rw [←hx];exact Lib.data_getElem? s i hi
   have HX:=Hh hxl
   by_cases hx128:x.toNat<128
   ·have hnx:=fun ty=>run_next_ascii (P:=Tryz.prog) w s i ty hi (by rw [hx];exact hx128)
    rw [hx] at hnx
    clear hxl hx hl
    by_cases hc:65≤x.toNat∧x.toNat≤90
    ·have q1:¬ (x.toNat:Int)<65:=by omega
     have q2:¬ (90:Int)<(x.toNat:Int):=by omega
     have HN:Hid ((s.data.toList.take (i+1)).all (fun c=>decide (65≤c.toNat) && decide (c.toNat≤90))=true):=Hh (by
      rw [List.take_add_one,HX.out,List.all_append,hA.out]
      show (true && ((decide (65≤x.toNat) && decide (x.toNat≤90)) && true))=true
      rw [decide_eq_true hc.1,decide_eq_true hc.2];rfl)
     clear hA hc
     go_wp2
     go_roundg g
     case measure=>omega
     case rel=>exact ⟨i+1,by omega,rfl,HN⟩
    ·have HN:=Hh (cap_no HX.out hc)
     rcases (by omega:x.toNat<65∨(¬x.toNat<65∧90<x.toNat)) with h1 | ⟨h1,h2⟩
     ·have q1:(x.toNat:Int)<65:=by omega
      clear hc hA
      go_wp2
      go_ret
      exact ⟨by rw [HN.out];rfl,(Br _ _).alloc (Lr _) _⟩
     ·have q1:¬ (x.toNat:Int)<65:=by omega
      have q2:(90:Int)<(x.toNat:Int):=by omega
      clear hc hA
      go_wp2
      go_ret
      exact ⟨by rw [HN.out];rfl,(Br _ _).alloc (Lr _) _⟩
   ·have HN:=Hh (cap_no HX.out (fun h=>by omega))
    have hnx:=fun ty=>run_next_any (P:=Tryz.prog) w s i ty hi
    have hd:128≤(Utf8.decode s i).1:=by
     rw [Lib.decode_N s i]
     exact vdecN_high _ _ _ _ _ (by omega) (by rw [List.getD_eq_getElem?_getD,hxl];show 128≤x.toNat;omega)
    have HD:=Hh hd
    generalize (Utf8.decode s i).1=rn at hnx HD
    have q1:¬ (rn:Int)<65:=by have:=HD.out;omega
    have q2:(90:Int)<(rn:Int):=by have:=HD.out;omega
    clear hd hA hxl hx hl
    generalize (Utf8.decode s i).2=sz at hnx
    go_wp2
    go_ret
    exact ⟨by rw [HN.out];rfl,(Br _ _).alloc (Lr _) _⟩
theorem validV_fm (v:VD):validV v=(capL v.p.data.toList && isFm v.f && inR v.a 15 && inR v.b 15 && inR v.z 16777215):=rfl
theorem vvalid_any (v:VD) (w:World) (hv:WideV v):Calls Tryz.prog 37 #[.agg (vcs v)] w fun e w'=>e=.returned (.bool (validV v))∧Below w.heap.size w w':=by
 have FN:=Hh (fun wx:World=>fnames_any wx)
 have VP:=Hh (fun wx:World=>vprot_any v.p wx)
 have WA:=Hh (fun wx:World=>vwithin_any v.a 15 wx)
 have WB:=Hh (fun wx:World=>vwithin_any v.b 15 wx)
 have WZ:=Hh (fun wx:World=>vwithin_any v.z 16777215 wx)
 have E:=Hh (validV_fm v)
 have HF:=Hh hv.f
 unfold vcs
 clear hv
 go_enter Tryz.func37,Tryz.ntmps37
 go_upto_region 1 with fail
 generalize ae:w.alloc _=w1
 obtain ⟨b0,k0⟩:=Al ae
 clear ae
 have HB1:=Hh b0
 have K0:=Hh k0
 refine wp_region_plan (fun w'=>w'.cell? ⟨w.heap.size,3,none⟩=some (.int .i64 v.f)) [2] (.take 1 (.take 2 (.ask 0 true (.ask 3 false (.take 4 (.take 5 (.take 6 (.take 7 (.take 8 .stop))))) .stop) .stop))) (by kernel_rfl) (by kernel_rfl) (fun _ d _ _ _ h=>by cases d <;> exact h) (five_of k0).2.2.2.1 ?_
 have hbd:Below w1.heap.size w1 w1.drew:=(Br _ _).drew
 have HBD:=Hh hbd
 clear b0 k0 hbd
 generalize w1.drew=wd at HBD ⊢
 refine take_any _ ?_ rfl rfl ?_ (fun K hK=>?_);rotate_left;(intro w0;go_simp;(try rfl));(go_simp;refine hK _ ?_;clear hK K)
 refine take_held _ ?_ rfl rfl (by decide) ?_ (fun K hK=>?_);rotate_left;(intro w0 hw0;go_simp;(try rfl));(go_simp;refine hK _ ?_;clear hK K)
 refine ask_step _ rfl trivial ?_;go_wp2_with (go_at_call 71;(with_reducible refine (FN.out _).mono ?_);rintro e w2 ⟨rfl,hl2,hb2⟩)
 refine Seg.mk ⟨(five_of (((HBD.out.trans (hb2.mono HBD.out.size)).block _ (lt_of_block K0.out)).trans K0.out)).2.2.2.1,?_⟩
 have hlk:=hl2.look2 HF.out.1 HF.out.2
 have hB2:Below w.heap.size w w2:=HB1.out.trans ((HBD.out.trans (hb2.mono HBD.out.size)).mono HB1.out.size)
 have hc:=five_of (((HBD.out.trans (hb2.mono HBD.out.size)).block _ (lt_of_block K0.out)).trans K0.out)
 have HB2:=Hh hB2
 clear hB2 HBD hb2 hl2 FN HF HB1 K0
 generalize wd.heap.size=m at hlk ⊢
 obtain ⟨bF,hbF⟩:∃b,b=isFm v.f:=⟨_,rfl⟩
 rw [←hbF] at hlk E
 clear hbF
 refine ask_late _ rfl trivial ?_;go_wp2_with fail;refine Seg.mk ?_
 clear hlk
 refine take_any _ ?_ rfl rfl ?_ (fun K hK=>?_);rotate_left;(intro w0;go_simp;(try rfl));(go_simp;refine hK _ ?_;clear hK K)
 refine take_any _ ?_ rfl rfl ?_ (fun K hK=>?_);rotate_left;(intro w0;go_simp;(try rfl));(go_simp;refine hK _ ?_;clear hK K)
 refine take_any _ ?_ rfl rfl ?_ (fun K hK=>?_);rotate_left;(intro w0;go_simp;(try rfl));(go_simp;refine hK _ ?_;clear hK K)
 refine take_any _ ?_ rfl rfl ?_ (fun K hK=>?_);rotate_left;(intro w0;go_simp;(try rfl));(go_simp;refine hK _ ?_;clear hK K)
 refine take_any _ ?_ rfl rfl ?_ (fun K hK=>?_);rotate_left;(intro w0;go_simp;(try rfl));(go_simp;refine hK _ ?_;clear hK K)
 unfold wpPlan
 obtain ⟨bP,hbP⟩:∃b,b=capL v.p.data.toList:=⟨_,rfl⟩
 obtain ⟨bA,hbA⟩:∃b,b=inR v.a 15:=⟨_,rfl⟩
 obtain ⟨bB,hbB⟩:∃b,b=inR v.b 15:=⟨_,rfl⟩
 obtain ⟨bZ,hbZ⟩:∃b,b=inR v.z 16777215:=⟨_,rfl⟩
 rw [←hbP] at VP E
 rw [←hbA] at WA E
 rw [←hbB] at WB E
 rw [←hbZ] at WZ E
 clear hbP hbA hbB hbZ
 have hE:∀b,(bP && bF && bA && bB && bZ)=b→validV v=b:=fun b h=>E.out.trans h
 have HE:=Hh hE
 clear hE E
 cases bF with
 | false=>
  have E2:Hid (validV v=false):=Hh (HE.out _ (by cases bP <;> rfl))
  clear HE
  go_wp2
  go_ret
  exact ⟨by rw [E2.out];rfl,HB2.out⟩
 | true=>
 cases bP with
 | false=>
  have E2:Hid (validV v=false):=Hh (HE.out _ (by cases bA <;> cases bB <;> cases bZ <;> rfl))
  clear HE
  go_wp2_with (first
   | (go_at_call 72;(with_reducible refine (VP.out _).mono ?_);rintro e w3 ⟨rfl,hb3⟩;go_loud ((have hl3:w.heap.size<w2.heap.size:=cell_lt hc.1);(have hc3:=five_keep hb3 hl3 hc);(have HB3:=Hh (HB2.out.trans (hb3.mono HB2.out.size)));clear hc hb3 hl3))
   | (go_at_call 73;(with_reducible refine (WA.out _).mono ?_);rintro e w4 ⟨rfl,rfl⟩)
   | (go_at_call 73;(with_reducible refine (WB.out _).mono ?_);rintro e w4 ⟨rfl,rfl⟩)
   | (go_at_call 73;(with_reducible refine (WZ.out _).mono ?_);rintro e w4 ⟨rfl,rfl⟩))
  go_ret
  exact ⟨by rw [E2.out];rfl,HB3.out⟩
 | true=>
 cases bA with
 | false=>
  have E2:Hid (validV v=false):=Hh (HE.out _ (by cases bB <;> cases bZ <;> rfl))
  clear HE
  go_wp2_with (first
   | (go_at_call 72;(with_reducible refine (VP.out _).mono ?_);rintro e w3 ⟨rfl,hb3⟩;go_loud ((have hl3:w.heap.size<w2.heap.size:=cell_lt hc.1);(have hc3:=five_keep hb3 hl3 hc);(have HB3:=Hh (HB2.out.trans (hb3.mono HB2.out.size)));clear hc hb3 hl3))
   | (go_at_call 73;(with_reducible refine (WA.out _).mono ?_);rintro e w4 ⟨rfl,rfl⟩)
   | (go_at_call 73;(with_reducible refine (WB.out _).mono ?_);rintro e w4 ⟨rfl,rfl⟩)
   | (go_at_call 73;(with_reducible refine (WZ.out _).mono ?_);rintro e w4 ⟨rfl,rfl⟩))
  go_ret
  exact ⟨by rw [E2.out];rfl,HB3.out⟩
 | true=>
 cases bB with
 | false=>
  have E2:Hid (validV v=false):=Hh (HE.out _ (by cases bZ <;> rfl))
  clear HE
  go_wp2_with (first
   | (go_at_call 72;(with_reducible refine (VP.out _).mono ?_);rintro e w3 ⟨rfl,hb3⟩;go_loud ((have hl3:w.heap.size<w2.heap.size:=cell_lt hc.1);(have hc3:=five_keep hb3 hl3 hc);(have HB3:=Hh (HB2.out.trans (hb3.mono HB2.out.size)));clear hc hb3 hl3))
   | (go_at_call 73;(with_reducible refine (WA.out _).mono ?_);rintro e w4 ⟨rfl,rfl⟩)
   | (go_at_call 73;(with_reducible refine (WB.out _).mono ?_);rintro e w4 ⟨rfl,rfl⟩)
   | (go_at_call 73;(with_reducible refine (WZ.out _).mono ?_);rintro e w4 ⟨rfl,rfl⟩))
  go_ret
  exact ⟨by rw [E2.out];rfl,HB3.out⟩
 | true=>
 cases bZ with
 | false=>
  have E2:Hid (validV v=false):=Hh (HE.out _ (rfl))
  clear HE
  go_wp2_with (first
   | (go_at_call 72;(with_reducible refine (VP.out _).mono ?_);rintro e w3 ⟨rfl,hb3⟩;go_loud ((have hl3:w.heap.size<w2.heap.size:=cell_lt hc.1);(have hc3:=five_keep hb3 hl3 hc);(have HB3:=Hh (HB2.out.trans (hb3.mono HB2.out.size)));clear hc hb3 hl3))
   | (go_at_call 73;(with_reducible refine (WA.out _).mono ?_);rintro e w4 ⟨rfl,rfl⟩)
   | (go_at_call 73;(with_reducible refine (WB.out _).mono ?_);rintro e w4 ⟨rfl,rfl⟩)
   | (go_at_call 73;(with_reducible refine (WZ.out _).mono ?_);rintro e w4 ⟨rfl,rfl⟩))
  go_ret
  exact ⟨by rw [E2.out];rfl,HB3.out⟩
 | true=>
  have E2:Hid (validV v=true):=Hh (HE.out _ rfl)
  clear HE
  go_wp2_with (first
   | (go_at_call 72;(with_reducible refine (VP.out _).mono ?_);rintro e w3 ⟨rfl,hb3⟩;go_loud ((have hl3:w.heap.size<w2.heap.size:=cell_lt hc.1);(have hc3:=five_keep hb3 hl3 hc);(have HB3:=Hh (HB2.out.trans (hb3.mono HB2.out.size)));clear hc hb3 hl3))
   | (go_at_call 73;(with_reducible refine (WA.out _).mono ?_);rintro e w4 ⟨rfl,rfl⟩)
   | (go_at_call 73;(with_reducible refine (WB.out _).mono ?_);rintro e w4 ⟨rfl,rfl⟩)
   | (go_at_call 73;(with_reducible refine (WZ.out _).mono ?_);rintro e w4 ⟨rfl,rfl⟩))
  go_ret
  exact ⟨by rw [E2.out];rfl,HB3.out⟩
end Go.Proofs.YtcklddldejejcaaGreatDoor