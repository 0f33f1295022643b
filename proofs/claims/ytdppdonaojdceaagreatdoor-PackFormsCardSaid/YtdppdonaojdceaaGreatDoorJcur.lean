/- Nodes without text or items as values, and how a map of such nodes is read. No program. -/
import Derived.Test.YtdppdonaojdceaaGreatDoorJput
import Derived.Test.YtdppdonaojdceaaGreatDoorNvw
import Derived.Maps.OwnSet
import Derived.Maps.RangeWalk
import Derived.Maps.StringElems
set_option linter.unusedVariables false
set_option linter.unusedSimpArgs false
set_option maxHeartbeats 1600000
set_option maxRecDepth 100000
namespace Go.Proofs.YtdppdonaojdceaaGreatDoor
open Go Go.Maps Go.ChangeShapes Go.WideShapes Go.ChangeAt Go.RowKit
def leafV (k:Int) (b:Bool):Value:=.agg #[.int .i64 k,.bool b,.int .i64 0,.string ⟨#[]⟩,.slice none 0 0,.slice none 0 0]
open Classical in
noncomputable def wordR (v:Value):Option (DataW Unit × List MemPlace):=if v=leafV 0 false then some (.lit (.int .i64 0),[]) else if v=leafV 1 false then some (.lit (.int .i64 1),[]) else if v=leafV 1 true then some (.lit (.int .i64 2),[]) else none
theorem leaf_ne1:leafV 1 false ≠ leafV 0 false:=by intro h;simp [leafV] at h
theorem leaf_ne2:leafV 1 true ≠ leafV 0 false:=by intro h;simp [leafV] at h
theorem leaf_ne3:leafV 1 true ≠ leafV 1 false:=by intro h;simp [leafV] at h
theorem wordR_null:wordR (leafV 0 false)=some (.lit (.int .i64 0),[]):=by unfold wordR;rw [if_pos rfl]
theorem wordR_false:wordR (leafV 1 false)=some (.lit (.int .i64 1),[]):=by unfold wordR;rw [if_neg leaf_ne1,if_pos rfl]
theorem wordR_true:wordR (leafV 1 true)=some (.lit (.int .i64 2),[]):=by unfold wordR;rw [if_neg leaf_ne2,if_neg leaf_ne3,if_pos rfl]
theorem wordR_inv {v:Value} {n:Int} {ps:List MemPlace} (h:wordR v=some (.lit (.int .i64 n),ps)):(n=0→v=leafV 0 false)∧(n=1→v=leafV 1 false)∧(n=2→v=leafV 1 true):=by
 unfold wordR at h
 split at h
 ·rename_i e
  simp only [Option.some.injEq,Prod.mk.injEq,DataW.lit.injEq,Lit.int.injEq] at h
  obtain ⟨⟨-,rfl⟩,-⟩:=h
  exact ⟨fun _=>e,fun h=>by omega,fun h=>by omega⟩
 ·split at h
  ·rename_i e
   simp only [Option.some.injEq,Prod.mk.injEq,DataW.lit.injEq,Lit.int.injEq] at h
   obtain ⟨⟨-,rfl⟩,-⟩:=h
   exact ⟨fun h=>by omega,fun _=>e,fun h=>by omega⟩
  ·split at h
   ·rename_i e
    simp only [Option.some.injEq,Prod.mk.injEq,DataW.lit.injEq,Lit.int.injEq] at h
    obtain ⟨⟨-,rfl⟩,-⟩:=h
    exact ⟨fun h=>by omega,fun h=>by omega,fun _=>e⟩
   ·cases h
def nullB:List UInt8:=[110,117,108,108]
def falseB:List UInt8:=[102,97,108,115,101]
def trueB:List UInt8:=[116,114,117,101]
def wordsD:DataW Unit:=(((DataW.map []).put (.string nullB) (.lit (.int .i64 0))).put (.string falseB) (.lit (.int .i64 1))).put (.string trueB) (.lit (.int .i64 2))
def wordZ (l:List UInt8):Option ND:=if l=trueB then some (.mk 1 true 0 ⟨#[]⟩ [] []) else if l=falseB then some (.mk 1 false 0 ⟨#[]⟩ [] []) else if l=nullB then some nd0 else none
theorem words_look (l:List UInt8):Maps.has wordsD (.string l)=(wordZ l).isSome∧wordsD.atKey (.string l) (.lit (.int .i64 0))=.lit (.int .i64 (if l=trueB then 2 else if l=falseB then 1 else 0)):=by
 have i0:IsMap (.map []:DataW Unit):=isMap_empty
 have i1:=i0.put (.string nullB) (.lit (.int .i64 0))
 have i2:=i1.put (.string falseB) (.lit (.int .i64 1))
 unfold wordsD
 refine ⟨?_,?_⟩
 ·rw [putS_has i2,putS_has i1,putS_has i0,show Maps.has (.map []:DataW Unit) (.string l)=false from rfl]
  unfold wordZ
  by_cases h1:l=trueB
  ·subst h1;rfl
  by_cases h2:l=falseB
  ·subst h2;rfl
  by_cases h3:l=nullB
  ·subst h3;rfl
  simp [h1,h2,h3]
 ·rw [putS_at i2,putS_at i1,putS_at i0,show (.map []:DataW Unit).atKey (.string l) (.lit (.int .i64 0))=.lit (.int .i64 0) from rfl]
  by_cases h1:l=trueB
  ·rw [if_pos h1,if_pos h1]
  by_cases h2:l=falseB
  ·rw [if_neg h1,if_neg h1,if_pos h2,if_pos h2]
  rw [if_neg h1,if_neg h1,if_neg h2,if_neg h2,ite_self]
def charL:List UInt8→Option UInt8
 | [x]=>ctlV x
 | _=>none
theorem ctl_of_let:∀c:UInt8,∀l,letZ (c.toNat:Int)=some l→ctlV l=some c:=by
 have:∀n:Fin 256,∀l,letZ ((UInt8.ofNat n.1).toNat:Int)=some l→ctlV l=some (UInt8.ofNat n.1):=by
  intro n l h
  have:∀n:Fin 256,(letZ ((UInt8.ofNat n.1).toNat:Int)).isSome=true→ctlV ((letZ ((UInt8.ofNat n.1).toNat:Int)).getD 0)=some (UInt8.ofNat n.1):=by decide +kernel
  have:=this n (by rw [h];rfl)
  rw [h] at this
  exact this
 intro c l h
 have hc:=this ⟨c.toNat,c.toNat_lt⟩ l
 rw [show UInt8.ofNat c.toNat=c from UInt8.ofNat_toNat] at hc
 exact hc h
theorem let_of_ctl:∀l c:UInt8,ctlV l=some c→letZ (c.toNat:Int)=some l:=by
 have:∀n:Fin 256,∀c,ctlV (UInt8.ofNat n.1)=some c→letZ (c.toNat:Int)=some (UInt8.ofNat n.1):=by
  intro n c h
  have:∀n:Fin 256,(ctlV (UInt8.ofNat n.1)).isSome=true→letZ (((ctlV (UInt8.ofNat n.1)).getD 0).toNat:Int)=some (UInt8.ofNat n.1):=by decide +kernel
  have:=this n (by rw [h];rfl)
  rw [h] at this
  exact this
 intro l c h
 have hc:=this ⟨l.toNat,l.toNat_lt⟩ c
 rw [show UInt8.ofNat l.toNat=l from UInt8.ofNat_toNat] at hc
 exact hc h
def CharsSo (D:DataW Unit) (left:Lit→Bool):Prop:=(∀l,Maps.has D (.string l)=true↔∃c:UInt8,charL l=some c∧left (.int .u8 (c.toNat:Int))=false)∧∀l (c:UInt8),charL l=some c→left (.int .u8 (c.toNat:Int))=false→∀z,D.atKey (.string l) z=.lit (.int .u8 (c.toNat:Int))
theorem zeroNodeE (w:World):(zeroValue 30).run Tryz.prog w=.ok (leafV 0 false) w:=by kernel_rfl
theorem zeroU8E (w:World):(zeroValue 5).run Tryz.prog w=.ok (.int .u8 0) w:=by kernel_rfl
def Words (w:World) (m:Nat):Prop:=w.ownsMap Tryz.prog 9 wordR m 3 wordsD
theorem Words.same {w w':World} {m:Nat} (h:Words w m) (hb:w'.heap[m]?=w.heap[m]?):Words w' m:=by
 obtain ⟨es,clock,h1,F,hs,hD⟩:=h
 exact ⟨es,clock,hb.trans h1,F,hs,hD⟩
theorem Words.lt {w:World} {m:Nat} (h:Words w m):m<w.heap.size:=World.ownsMap.lt h
theorem Words.look {w:World} {m:Nat} (h:Words w m) {s:ByteArray} (hs:s.size≤maxLen):(Instr.lookup 83 (.map (some m)) (.string s) true).run Tryz.prog w=.ok (.tuple #[leafV (((wordZ s.data.toList).getD nd0).kind) (((wordZ s.data.toList).getD nd0).bool),.bool (wordZ s.data.toList).isSome]) w:=by
 obtain ⟨v,ps,hrun,hv⟩:=World.ownsMap.look_ok h lawStrN Tryz.underlying83 (zeroNodeE w) wordR_null (WideMaps.keyOf_string_mk Tryz.underlying9 hs)
 obtain ⟨l1,l2⟩:=words_look s.data.toList
 rw [l2] at hv
 rw [hrun,l1]
 obtain ⟨q0,q1,q2⟩:=wordR_inv hv
 have:v=leafV (((wordZ s.data.toList).getD nd0).kind) (((wordZ s.data.toList).getD nd0).bool):=by
  by_cases h1:s.data.toList=trueB
  ·rw [q2 (by rw [if_pos h1])];unfold wordZ;rw [if_pos h1];rfl
  by_cases h2:s.data.toList=falseB
  ·rw [q1 (by rw [if_neg h1,if_pos h2])];unfold wordZ;rw [if_neg h1,if_pos h2];rfl
  rw [q0 (by rw [if_neg h1,if_neg h2])];unfold wordZ;rw [if_neg h1,if_neg h2]
  by_cases h3:s.data.toList=nullB
  ·rw [if_pos h3];rfl
  ·rw [if_neg h3];rfl
 rw [this]
theorem words_any (w:World):Calls Tryz.prog 65 #[] w fun e w'=>e=.returned (.map (some w.heap.size))∧Words w' w.heap.size∧Below w.heap.size w w':=by
 have hmm:=@run_makeMap Tryz.prog
 have h0:=World.ownsMap_made (H:=Unit) w Tryz.prog 9 wordR
 have b0:=(Br w.heap.size w).alloc (o:=.map #[] 0) (Lr _)
 have H0:=Hh h0
 have B0:=Hh b0
 clear h0 b0
 go_enter Tryz.func65,Tryz.ntmps65
 go_wp2_with (first
  | (refine wpList_insert_own _ rfl _ _ _ 83 rfl 9 30 lawStrN Tryz.underlying83 _ w.heap.size 2 _ rfl h2 (by unfold maxLen;omega) _ _ _ rfl rfl (WideMaps.keyOf_string_mk Tryz.underlying9 (s:=⟨#[116,114,117,101]⟩) (by decide)) _ [] wordR_true ?_;intro w3 h3 g3;(have b3:=gbelow b2 g3 (b2.size) (Lr _)))
  | (refine wpList_insert_own _ rfl _ _ _ 83 rfl 9 30 lawStrN Tryz.underlying83 _ w.heap.size 1 _ rfl h1 (by unfold maxLen;omega) _ _ _ rfl rfl (WideMaps.keyOf_string_mk Tryz.underlying9 (s:=⟨#[102,97,108,115,101]⟩) (by decide)) _ [] wordR_false ?_;intro w2 h2 g2;(have b2:=gbelow b1 g2 (b1.size) (Lr _)))
  | (refine wpList_insert_own _ rfl _ _ _ 83 rfl 9 30 lawStrN Tryz.underlying83 _ w.heap.size 0 _ rfl H0.out (by unfold maxLen;omega) _ _ _ rfl rfl (WideMaps.keyOf_string_mk Tryz.underlying9 (s:=⟨#[110,117,108,108]⟩) (by decide)) _ [] wordR_null ?_;intro w1 h1 g1;(have b1:=gbelow B0.out g1 (B0.out.size) (Lr _))))
 go_ret
 exact ⟨rfl,h3,b3⟩
def Chars (w:World) (m:Nat):Prop:=∃D n,w.ownsMap Tryz.prog 9 (plainElem (H:=Unit) Tryz.prog 5) m n D∧CharsSo D fun _=>false
theorem Chars.same {w w':World} {m:Nat} (h:Chars w m) (hb:w'.heap[m]?=w.heap[m]?):Chars w' m:=by
 obtain ⟨D,n,⟨es,clock,h1,F,hs,hD⟩,hc⟩:=h
 exact ⟨D,n,⟨es,clock,hb.trans h1,F,hs,hD⟩,hc⟩
theorem Chars.lt {w:World} {m:Nat} (h:Chars w m):m<w.heap.size:=by obtain ⟨D,n,h,-⟩:=h;exact World.ownsMap.lt h
theorem Chars.look {w:World} {m:Nat} (h:Chars w m) {s:ByteArray} (hs:s.size≤maxLen):∃c:Nat,c<256∧(Instr.lookup 85 (.map (some m)) (.string s) true).run Tryz.prog w=.ok (.tuple #[.int .u8 (c:Int),.bool (charL s.data.toList).isSome]) w∧∀x,charL s.data.toList=some x→c=x.toNat:=by
 obtain ⟨D,n,h,hc1,hc2⟩:=h
 obtain ⟨v,ps,hrun,hv⟩:=World.ownsMap.look_ok h lawStrN Tryz.underlying85 (zeroU8E w) (plainElem_int Tryz.underlying5 (by decide)) (WideMaps.keyOf_string_mk Tryz.underlying9 hs)
 obtain ⟨c,rfl,e',hw⟩:=plainElem_int_inv Tryz.underlying5 hv
 have hr:0≤c∧c<256:=by
  simp [Lit.wf,IntKind.min,IntKind.max,IntKind.signed,IntKind.bits] at hw
  omega
 have hh:Maps.has D (.string s.data.toList)=(charL s.data.toList).isSome:=by
  cases q:charL s.data.toList with
  | none=>
   cases q2:Maps.has D (.string s.data.toList) with
   | false=>rfl
   | true=>
    obtain ⟨c,e,-⟩:=(hc1 _).1 q2
    rw [q] at e;cases e
  | some x=>exact (hc1 _).2 ⟨x,q,rfl⟩
 refine ⟨c.toNat,by omega,?_,fun x hx=>?_⟩
 ·rw [hrun,hh,show ((c.toNat:Nat):Int)=c by omega]
 ·rw [hc2 _ x hx rfl] at e'
  simp only [Prod.mk.injEq,DataW.lit.injEq,Lit.int.injEq] at e'
  omega
theorem charsSo_start (left:Lit→Bool) (h:∀c:UInt8,(letZ (c.toNat:Int)).isSome=true→left (.int .u8 (c.toNat:Int))=true):CharsSo (.map []) left:=by
 refine ⟨fun l=>⟨fun e=>(by cases e),?_⟩,fun l c e e2=>?_⟩
 ·rintro ⟨c,e,e2⟩
  rw [h c (by
   have:∃x,l=[x]∧ctlV x=some c:=by
    unfold charL at e
    split at e
    ·exact ⟨_,rfl,e⟩
    ·cases e
   obtain ⟨x,-,hx⟩:=this
   rw [let_of_ctl x c hx];rfl)] at e2
  cases e2
 ·rw [h c (by
   have:∃x,l=[x]∧ctlV x=some c:=by
    unfold charL at e
    split at e
    ·exact ⟨_,rfl,e⟩
    ·cases e
   obtain ⟨x,-,hx⟩:=this
   rw [let_of_ctl x c hx];rfl)] at e2
  cases e2
theorem charsSo_step {D:DataW Unit} {left:Lit→Bool} (hD:IsMap D) (h:CharsSo D left) {x:UInt8} {l:UInt8} (hx:letZ (x.toNat:Int)=some l) (hl:left (.int .u8 (x.toNat:Int))=true):CharsSo (D.put (.string [l]) (.lit (.int .u8 (x.toNat:Int)))) (fun z=>left z && !z.sameKey (.int .u8 (x.toNat:Int))):=by
 have hcl:=ctl_of_let x l hx
 have hsk:∀c:UInt8,(Lit.int .u8 (c.toNat:Int)).sameKey (.int .u8 (x.toNat:Int))=decide (c=x):=by
  intro c
  show decide (IntKind.u8=IntKind.u8∧(c.toNat:Int)=(x.toNat:Int))=_
  by_cases e:c=x
  ·subst e;simp
  ·rw [decide_eq_false e,decide_eq_false]
   rintro ⟨-,h⟩
   exact e (UInt8.toNat_inj.1 (by omega))
 refine ⟨fun k=>?_,fun k c hc hf z=>?_⟩
 ·rw [putS_has hD,Bool.or_eq_true,decide_eq_true_eq,h.1 k]
  constructor
  ·rintro (rfl | ⟨c,e,f⟩)
   ·exact ⟨x,hcl,by show (left _ && !_)=false;rw [hsk,decide_eq_true rfl];simp⟩
   ·exact ⟨c,e,by show (left _ && !_)=false;rw [f];rfl⟩
  ·rintro ⟨c,e,f⟩
   replace f:(left (.int .u8 (c.toNat:Int)) && !(Lit.int .u8 (c.toNat:Int)).sameKey (.int .u8 (x.toNat:Int)))=false:=f
   rw [hsk] at f
   by_cases ec:c=x
   ·subst ec
    left
    unfold charL at e
    split at e
    ·rename_i y
     have:=let_of_ctl y c e
     rw [hx] at this
     cases this;rfl
    ·cases e
   ·rw [decide_eq_false ec] at f
    right
    exact ⟨c,e,by simpa using f⟩
 ·rw [putS_at hD]
  replace hf:(left (.int .u8 (c.toNat:Int)) && !(Lit.int .u8 (c.toNat:Int)).sameKey (.int .u8 (x.toNat:Int)))=false:=hf
  rw [hsk] at hf
  by_cases ek:k=[l]
  ·rw [if_pos ek]
   subst ek
   have:some x=some c:=by rw [←hc];exact hcl.symm
   cases this;rfl
  ·rw [if_neg ek]
   refine h.2 k c hc ?_ z
   by_cases ec:c=x
   ·subst ec
    exfalso
    apply ek
    unfold charL at hc
    split at hc
    ·rename_i y
     have:=let_of_ctl y c hc
     rw [hx] at this
     cases this;rfl
    ·cases hc
   ·rw [decide_eq_false ec] at hf
    simpa using hf
theorem chars_any (w:World):Calls Tryz.prog 66 #[] w fun e w'=>e=.returned (.map (some w.heap.size))∧Chars w' w.heap.size∧Below w.heap.size w w':=by
 have hmm:=@run_makeMap Tryz.prog
 have h0:=World.ownsMap_made (H:=Unit) w Tryz.prog 9 (plainElem (H:=Unit) Tryz.prog 5)
 have b0:=(Br w.heap.size w).alloc (o:=.map #[] 0) (Lr _)
 have hz0:(w.alloc (.map #[] 0)).heap.size=w.heap.size+1:=by simp
 have H0:=Hh h0
 have B0:=Hh b0
 have l0:=letters_any (w.alloc (.map #[] 0))
 obtain ⟨m,hm⟩:∃m,m=w.heap.size+1:=⟨_,rfl⟩
 rw [hz0,←hm] at l0
 have L:=Hh l0
 have HZ:=Hh hz0
 have HM:=Hh hm
 clear l0 hm hz0
 clear h0 b0
 go_enter Tryz.func66,Tryz.ntmps66
 go_upto_region 2 with fail
 go_wp2_with (first
  | (go_at_call 62;(with_reducible refine (L.out).mono ?_);rintro e w2 ⟨rfl,hl2,hb2⟩)
  | (at_range;refine wpList_range_own _ rfl _ 76 rfl 5 9 lawU8 Tryz.underlying76 _ _ 7 _ rfl hl2 ?_;intro w3 hrg0 hg0 hs0)
  | go_in)
 go_frame
 have hz0:=HZ.out
 have hm:=HM.out
 have hmz:m=w.heap.size+1:=hm
 have hb03:=hb2.grown hg0 (by rw [←hz0] at hm;rw [hm];exact hb2.size) (fun j hj=>by cases hj)
 have hown3:w3.ownsMap Tryz.prog 9 (plainElem (H:=Unit) Tryz.prog 5) w.heap.size 0 (.map []):=H0.out.kept (grown_of_below hb03 (by rw [hz0,hm];exact Lr _) none) (by simp)
 have hB3:=B0.out.trans (hb03.mono (by omega))
 have hr:m<w2.heap.size:=by have:=hl2.lt;exact this
 obtain ⟨r,hrr⟩:∃r,r=w2.heap.size:=⟨_,rfl⟩
 rw [←hrr] at hrg0 hs0 hr ⊢
 have hwm:w.heap.size<m:=by omega
 clear hb2 hl2 hg0 L hm hb03 hmz hz0 hrr HM HZ
 go_loopw [2,3] (fun _ _ wr=>∃ (left:Lit→Bool) (cnt:Nat) (Dout:DataW Unit) (n:Nat),wr.ranges Tryz.prog 5 (plainElem (H:=Unit) Tryz.prog 9) m r 7 lettersD left cnt∧n+cnt≤7 ∧
  wr.ownsMap Tryz.prog 9 (plainElem (H:=Unit) Tryz.prog 5) w.heap.size n Dout∧CharsSo Dout left∧Below w.heap.size w wr)
  (fun _ _ wr=>wr.rangeLeft m r)
 case atStart=>
  refine ⟨_,_,.map [],0,hrg0,by decide +kernel,hown3,charsSo_start _ fun c hc=>?_,hB3⟩
  rw [(letters_look _).1];exact hc
 case round=>
  obtain ⟨left,cnt,Dout,n,hrg,hcs,hout,hA,hnx⟩:=hrel
  go_wp2_with (first
   | (at_next;refine wpList_next_ranges_is _ rfl _ rfl 5 9 .u8 lawU8 Tryz.underlying5 Tryz.underlying9 m r 7 _ _ _ rfl hrg ?_ ?_)
   | go_in)
  ·intro hc0 hl0
   go_wp2
   go_ret
   refine ⟨rfl,⟨Dout,n,hout,?_⟩,hnx⟩
   rwa [show left=fun _=>false from funext hl0] at hA
  ·intro x c w1 cnt1 hwx hwc hlx hat hrg1 hlt hg1 hs1 hen
   have hout1:=hout.kept hg1 (by intro e;have:=Option.some.inj e;omega)
   have hxr:0≤x∧x<256:=by
    simp [Lit.wf,IntKind.min,IntKind.max,IntKind.signed,IntKind.bits] at hwx
    omega
   obtain ⟨xb,hxb⟩:∃xb:UInt8,(xb.toNat:Int)=x:=⟨UInt8.ofNat x.toNat,by rw [UInt8.toNat_ofNat'];omega⟩
   obtain ⟨l,hl⟩:∃l,letZ (xb.toNat:Int)=some l:=by
    have h:=(letters_look x).2 (.lit (.bool true))
    rw [hat] at h
    rw [hxb]
    cases q:letZ x with
    | none=>rw [q] at h;cases h
    | some l=>exact ⟨l,rfl⟩
   have hcl:c.data.toList=[l]:=by
    have h:=(letters_look x).2 (.lit (.bool true))
    rw [hat,←hxb,hl] at h
    simp only [DataW.lit.injEq,Lit.string.injEq] at h
    exact h
   rw [←hxb] at hlx hrg1 hen ⊢
   have hA2:=charsSo_step hout.isMap hA hl hlx
   have hxw:(Lit.int IntKind.u8 (xb.toNat:Int)).wf=true:=by rw [hxb];exact hwx
   rw [←hcl] at hA2
   clear hl hat hwx hxr hcl hA hxb hlx
   have HA2:=Hh hA2
   clear hA2
   go_wp2_with (first
    | (at_mapUpdate;refine wpList_mapUpdate_own _ rfl _ _ _ 85 rfl 9 5 lawStrN Tryz.underlying85 _ w.heap.size _ _ rfl hout1 (by unfold maxLen;omega) _ _ _ rfl rfl (WideMaps.keyOf_string_mk Tryz.underlying9 hwc) _ [] (plainElem_int Tryz.underlying5 hxw) ?_;intro w2 hout2 hg2;go_frame)
    | go_in)
   have hrg2:=hrg1.kept hg2 (fun e=>by have:=Option.some.inj e;omega) (fun e=>by have:=Option.some.inj e;omega)
   go_roundw
   case rel=>
    exact ⟨_,cnt1,_,n+1,hrg2,by omega,hout2,HA2.out,(hnx.grown hg1 hnx.size (fun j hj=>by cases hj;omega)).grown hg2 (by rw [hs1];exact hnx.size) (fun j hj=>by cases hj;exact Lr _)⟩
   case measure=>rw [hrg2.left_eq,hrg.left_eq];exact hlt
end Go.Proofs.YtdppdonaojdceaaGreatDoor
namespace Go.Proofs.YtdppdonaojdceaaGreatDoor
open Go Go.ChangeShapes Go.WideShapes Go.ChangeAt Go.RowKit
def bA (l:List UInt8):ByteArray:=⟨l.toArray⟩
theorem bA_data (l:List UInt8):(bA l).data.toList=l:=by simp [bA]
theorem bA_size (l:List UInt8):(bA l).size=l.length:=by simp [bA,ByteArray.size]
theorem bA_of (s:ByteArray):bA s.data.toList=s:=by cases s;simp [bA]
theorem bA_extract (l:List UInt8) (a b:Nat):(bA l).extract a b=bA ((l.drop a).take (b - a)):=by
 apply ByteArray.ext
 apply Array.toList_inj.1
 rw [ByteArray.data_extract,Array.toList_extract]
 simp [bA,List.extract]
theorem bA_head (l:List UInt8) (n:Nat):(bA l).extract 0 n=bA (l.take n):=by rw [bA_extract];simp
theorem bA_tail (l:List UInt8) (n:Nat):(bA l).extract n (bA l).size=bA (l.drop n):=by
 rw [bA_extract,bA_size,List.take_of_length_le (by simp)]
def upTo (ends:List UInt8) (r:List UInt8):List UInt8:=r.takeWhile fun b => !ends.contains b
def from' (ends:List UInt8) (r:List UInt8):List UInt8:=r.dropWhile fun b => !ends.contains b
theorem upTo_from (ends r:List UInt8):upTo ends r++from' ends r=r:=List.takeWhile_append_dropWhile
theorem indexAny_cutP {ends:List UInt8} {p:UInt8→Bool} (hp:∀b,p b = !ends.contains b):∀ (r:List UInt8),(Lib.indexAny r ends=-1∧r.takeWhile p=r∧r.dropWhile p=[])∨∃k:Nat,Lib.indexAny r ends=k∧k<r.length∧r.takeWhile p=r.take k∧r.dropWhile p=r.drop k
 | []=>.inl ⟨rfl,rfl,rfl⟩
 | b::l=>by
  rw [Lib.indexAny]
  cases hb:ends.contains b with
  | true=>
   have h:p b=false:=by rw [hp,hb];rfl
   exact .inr ⟨0,by simp,by simp,by rw [List.takeWhile_cons,h];simp,by rw [List.dropWhile_cons,h];simp⟩
  | false=>
   have h:p b=true:=by rw [hp,hb];rfl
   rw [List.takeWhile_cons,List.dropWhile_cons,h]
   rcases indexAny_cutP hp l with ⟨h1,h2,h3⟩ | ⟨k,h1,h2,h3,h4⟩
   ·exact .inl ⟨by simp [h1],by simp [h2],by simp [h3]⟩
   ·right
    have:((k:Int) == -1)=false:=by simp
    refine ⟨k+1,?_,by simpa using h2,by simp [h3],by simp [h4]⟩
    rw [h1,this]
    simp
theorem indexAny_cut (r ends:List UInt8):(Lib.indexAny r ends=-1∧upTo ends r=r∧from' ends r=[])∨∃k:Nat,Lib.indexAny r ends=k∧k<r.length∧upTo ends r=r.take k∧from' ends r=r.drop k:=indexAny_cutP (fun _=>rfl) r
theorem EVars.keep {w w':World} {b:Nat} (h:EVars w) (hg:w.grownBy w' (some b)) (h1:4 ≠ b) (h2:5 ≠ b):EVars w':=by
 obtain ⟨⟨t,p,e1⟩,⟨t',p',e2⟩⟩:=h
 refine ⟨⟨t,p,?_⟩,⟨t',p',?_⟩⟩
 ·have hl:4<w.heap.size:=cell_lt e1
  rw [cell_same (hg.block 4 hl (by intro e;exact h1 (Option.some.inj e)))];exact e1
 ·have hl:5<w.heap.size:=cell_lt e2
  rw [cell_same (hg.block 5 hl (by intro e;exact h2 (Option.some.inj e)))];exact e2
def PrS (w:World) (g mw mc:Nat) (r:List UInt8):Prop:=w.heap[g]?=some (.cells #[.string (bA r),.map (some mw),.map (some mc)] 88 (0,0))∧Words w mw∧Chars w mc∧(mw<g∧mc<g)∧EVars w∧4<g∧5<g
theorem PrS.lt {w:World} {g mw mc:Nat} {r:List UInt8} (h:PrS w g mw mc r):g<w.heap.size:=lt_of_block h.1
theorem PrS.below {w w':World} {g mw mc:Nat} {r:List UInt8} (h:PrS w g mw mc r) (hb:Below w.heap.size w w'):PrS w' g mw mc r:=by
 obtain ⟨h1,h2,h3,h4,h5,h6⟩:=h
 exact ⟨(hb.block g (lt_of_block h1)).trans h1,h2.same (hb.block _ h2.lt),h3.same (hb.block _ h3.lt),h4,h5.below hb,h6⟩
theorem PrS.kept {w w':World} {g mw mc b:Nat} {r:List UInt8} (h:PrS w g mw mc r) (hg:w.grownBy w' (some b)) (hb:g<b):PrS w' g mw mc r:=by
 obtain ⟨h1,h2,h3,⟨h4,h5⟩,h6,h7,h8⟩:=h
 exact ⟨keepG hg (by omega) h1,h2.same (hg.block _ h2.lt (by intro e;have:=Option.some.inj e;omega)),h3.same (hg.block _ h3.lt (by intro e;have:=Option.some.inj e;omega)),⟨h4,h5⟩,h6.keep hg (by omega) (by omega),h7,h8⟩
theorem PrS.set {w:World} {g mw mc:Nat} {r:List UInt8} (h:PrS w g mw mc r) (r':List UInt8):PrS (w.setCell ⟨g,0,none⟩ (.string (bA r'))) g mw mc r'∧w.grownBy (w.setCell ⟨g,0,none⟩ (.string (bA r'))) (some g):=by
 obtain ⟨h1,h2,h3,⟨h4,h5⟩,h6,h7,h8⟩:=h
 have k:=heap_set h1 (j:=0) (.string (bA r'))
 have hg:=grown_set w g 0 (.string (bA r'))
 refine ⟨⟨by simpa using k,h2.same (heap_setCell_other w ⟨g,0,none⟩ _ _ (by show mw ≠ g;omega)),h3.same (heap_setCell_other w ⟨g,0,none⟩ _ _ (by show mc ≠ g;omega)),⟨h4,h5⟩,h6.keep hg (by omega) (by omega),h7,h8⟩,hg⟩
def PPost (g mw mc:Nat) (w:World) (v:Value) (r':List UInt8) (e:Ending) (w':World):Prop:=e=.returned v∧PrS w' g mw mc r'∧w.grownBy w' (some g)
theorem skip_any (p:ByteArray) {g mw mc:Nat} {r:List UInt8} (w:World) (h:PrS w g mw mc r):Calls Tryz.prog 98 #[.pointer (some ⟨g,0,none⟩),.string p] w (PPost g mw mc w (.bool (Lib.hasPrefix r p.data.toList)) (Lib.trimPrefix r p.data.toList)):=by
 have c0:w.cell? ⟨g,0,none⟩=some (.string (bA r)):=cell_blk h.1 rfl
 have f0:w.frozen? ⟨g,0,none⟩=false:=free_blk h.1
 have hc:=cutp_any (bA r) p w
 rw [bA_data] at hc
 have ST:=Hh (h.set (Lib.trimPrefix r p.data.toList))
 have C:Hid (Calls Tryz.prog 120 #[.string (bA r),.string p] w fun e w'=>e=.returned (.tuple #[.string (bA (Lib.trimPrefix r p.data.toList)),.bool (Lib.hasPrefix r p.data.toList)])∧w=w'):=hc
 clear hc h
 generalize Lib.trimPrefix r p.data.toList=r' at C ST ⊢
 generalize Lib.hasPrefix r p.data.toList=b at C ⊢
 go_enter Tryz.func98,Tryz.ntmps98
 go_wp2_with (go_at_call 120;(with_reducible refine (C.out).mono ?_);rintro e w1 ⟨rfl,rfl⟩)
 go_ret
 exact ⟨rfl,ST.out.1,ST.out.2⟩
theorem take_any' (n:Nat) {g mw mc:Nat} {r:List UInt8} (w:World) (h:PrS w g mw mc r) (hn:n≤1000000) (hr:r.length≤1000000):Calls Tryz.prog 138 #[.pointer (some ⟨g,0,none⟩),.int .i64 (n:Int)] w (PPost g mw mc w (.string (bA (r.take n))) (r.drop n)):=by
 have c0:w.cell? ⟨g,0,none⟩=some (.string (bA r)):=cell_blk h.1 rfl
 have f0:w.frozen? ⟨g,0,none⟩=false:=free_blk h.1
 have hz:=bA_size r
 by_cases q:n≤r.length
 ·have q1:(n:Int)≤((bA r).size:Int):=by omega
  have q0:(0:Int)≤(n:Int):=by omega
  have qm:min (n:Int) ((bA r).size:Int)=(n:Int):=by omega
  have k1:=bA_head r n
  have k2:=bA_tail r n
  have ST:=Hh (h.set (r.drop n))
  clear hz q h
  go_enter Tryz.func138,Tryz.ntmps138
  go_wp2
  go_ret
  exact ⟨rfl,ST.out.1,ST.out.2⟩
 ·obtain ⟨m,hm⟩:∃m,m=(bA r).size:=⟨_,rfl⟩
  have e1:r.take n=r.take m:=by rw [hm,hz,List.take_of_length_le (by omega),List.take_of_length_le (Lr _)]
  have e2:r.drop n=r.drop m:=by rw [hm,hz,List.drop_eq_nil_of_le (by omega),List.drop_eq_nil_of_le (Lr _)]
  have k1:=bA_head r m
  have k2:=bA_tail r m
  rw [←hm] at k2
  have ST:=Hh (h.set (r.drop m))
  have qm:min (n:Int) (m:Int)=(m:Int):=by omega
  have qn:(bA r).size=m:=hm.symm
  have q0:(0:Int)≤(m:Int):=by omega
  have k3:bA (r.drop m)=ByteArray.empty:=by rw [hm,hz,List.drop_eq_nil_of_le (Lr _)];rfl
  rw [k3] at ST
  rw [e1,e2]
  clear hz q h e1 e2 hm
  go_enter Tryz.func138,Tryz.ntmps138
  go_wp2
  go_ret
  exact ⟨rfl,ST.out.1,ST.out.2⟩
theorem until_any (ends:ByteArray) {g mw mc:Nat} {r:List UInt8} (w:World) (h:PrS w g mw mc r) (h2:2≤ends.size) (hc8:ends.size≤100) (hr:r.length≤1000000) (hA:∀ (j:Nat) b,ends.data.toList[j]?=some b→b.toNat<128):Calls Tryz.prog 122 #[.pointer (some ⟨g,0,none⟩),.string ends] w (PPost g mw mc w (.string (bA (upTo ends.data.toList r))) (from' ends.data.toList r)):=by
 have c0:w.cell? ⟨g,0,none⟩=some (.string (bA r)):=cell_blk h.1 rfl
 have hz:=bA_size r
 have X:=idxany_any (bA r) ends w h2 hc8 (by omega) hA
 rw [bA_data] at X
 have HP:=Hh h
 have T:=Hh (fun (n:Nat) (wx:World) (hx:PrS wx g mw mc r) (hn:n≤r.length)=>take_any' n wx hx (by omega) hr)
 rcases indexAny_cut r ends.data.toList with ⟨i1,i2,i3⟩ | ⟨k,i1,i2,i3,i4⟩
 ·rw [i1] at X
  have XX:=Hh X
  rw [i2,i3]
  have T2:=Hh (fun wx hx=>T.out r.length wx hx (Lr _))
  rw [List.take_of_length_le (Lr _),List.drop_eq_nil_of_le (Lr _)] at T2
  have hlt:=h.lt
  clear X i1 i2 i3 h hA h2 hc8 T
  go_enter Tryz.func122,Tryz.ntmps122
  go_upto_region 2 with ((with_reducible refine (XX.out).mono ?_);rintro e w1 ⟨rfl,hb1⟩)
  have h1:=HP.out.below hb1
  have c1:w1.cell? ⟨g,0,none⟩=some (.string (bA r)):=cell_blk h1.1 rfl
  have T3:=Hh (T2.out w1 h1)
  clear c0 h1 T2
  go_wp2_with (go_at_call 138;(with_reducible refine (T3.out).mono ?_);rintro e w2 ⟨rfl,hp,hg⟩)
  go_ret
  exact ⟨rfl,hp,gtrans (grown_of_below hb1 (Lr _) _) hg⟩
 ·rw [i1] at X
  have XX:=Hh X
  rw [i3,i4]
  have T2:=Hh (fun wx hx=>T.out k wx hx (Nat.le_of_lt i2))
  have k0:¬ (k:Int)<0:=by omega
  clear X i1 i2 i3 i4 h hA h2 hc8 T
  go_enter Tryz.func122,Tryz.ntmps122
  go_upto_region 2 with ((with_reducible refine (XX.out).mono ?_);rintro e w1 ⟨rfl,hb1⟩)
  have h1:=HP.out.below hb1
  have T3:=Hh (T2.out w1 h1)
  clear c0 h1 T2
  go_wp2_with (go_at_call 138;(with_reducible refine (T3.out).mono ?_);rintro e w2 ⟨rfl,hp,hg⟩)
  go_ret
  exact ⟨rfl,hp,gtrans (grown_of_below hb1 (Lr _) _) hg⟩
end Go.Proofs.YtdppdonaojdceaaGreatDoor