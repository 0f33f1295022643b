/- A set of strings that the call makes: a map of bools, filled with true, asked by m[s]. For every program. -/
import Derived.Test.YtcklddldejejcaaGreatDoorJread
import Derived.Test.YtcklddldejejcaaGreatDoorNcop
import Derived.Maps.OwnSet
import Derived.Maps.Own
import Derived.Maps.OwnOps
import Derived.Maps.StringElems
set_option linter.unusedVariables false
set_option linter.unusedSimpArgs false
set_option maxHeartbeats 1600000
set_option maxRecDepth 100000
namespace Go.Proofs.YtcklddldejejcaaGreatDoor
open Go Go.Maps Go.RowKit
def inB (s:ByteArray) (ns:List ByteArray):Bool:=ns.any fun t=>decide (s=t)
theorem inB_iff (s:ByteArray) (ns:List ByteArray):inB s ns=true↔s ∈ ns:=by
 unfold inB
 rw [List.any_eq_true]
 constructor
 ·rintro ⟨t,ht,e⟩
  rw [of_decide_eq_true e];exact ht
 ·exact fun h=>⟨s,h,decide_eq_true rfl⟩
def setD:List ByteArray→DataW Unit
 | []=>.map []
 | s::ns=>(setD ns).put (.string s.data.toList) (.lit (.bool true))
theorem setD_isMap:∀ns,IsMap (setD ns)
 | []=>isMap_empty
 | _::ns=>(setD_isMap ns).put _ _
theorem setD_at (s:ByteArray):∀ns,(setD ns).atKey (.string s.data.toList) (.lit (.bool false))=.lit (.bool (inB s ns))
 | []=>by
  rfl
 | t::ns=>by
  unfold setD
  by_cases h:s=t
  ·subst h
   rw [atKey_put_same (setD_isMap ns) (show WideAt.IsKeyLit (.string s.data.toList) from trivial)]
   rw [(inB_iff s (s::ns)).2 (by simp)]
  ·have hne:s.data.toList ≠ t.data.toList:=fun e=>h (ByteArray.ext (Array.toList_inj.1 e))
   rw [atKey_put_other (by intro e;simp only [Lit.string.injEq] at e;first | exact hne e | exact hne e.symm),setD_at s ns]
   simp [inB,h]
section
variable {P:Program} {t k e:TypeId} {w:World} {b:Nat} {ns:List ByteArray}
def OwnsSet (P:Program) (k e:TypeId) (w:World) (b:Nat) (ns:List ByteArray):Prop:=w.ownsMap P k (plainElem (H:=Unit) P e) b ns.length (setD ns)
theorem plainElem_bool_inv {H:Type} (he:P.underlying e=some .bool) {v:Value} {z:DataW H × List MemPlace} (h:plainElem P e v=some z):∃x,v=.bool x∧z=(.lit (.bool x),[]):=by
 unfold plainElem at h
 rw [he] at h
 cases v <;> simp at h
 exact ⟨_,rfl,h.symm⟩
theorem OwnsSet.look (h:OwnsSet P k e w b ns) (K:Keyed P k) (ht:P.underlying t=some (.map k e)) (he:P.underlying e=some .bool) (hz:(zeroValue e).run P w=.ok (.bool false) w) (s:ByteArray) (hkey:keyOf P k (.string s)=some (.string s.data.toList)) :
 (Instr.lookup t (.map (some b)) (.string s) false).run P w=.ok (.bool (inB s ns)) w:=by
 obtain ⟨v,ps,hrun,hv⟩:=World.ownsMap.lookup h K ht hz (plainElem_bool he false) hkey
 obtain ⟨x,rfl,e'⟩:=plainElem_bool_inv he hv
 rw [setD_at] at e'
 simp only [Prod.mk.injEq,DataW.lit.injEq,Lit.bool.injEq] at e'
 rw [hrun,e'.1]
theorem OwnsSet.kept {w':World} {row:Option Nat} (h:OwnsSet P k e w b ns) (hg:w.grownBy w' row) (hne:some b ≠ row):OwnsSet P k e w' b ns:=World.ownsMap.kept h hg hne
theorem OwnsSet.lt (h:OwnsSet P k e w b ns):b<w.heap.size:=World.ownsMap.lt h
theorem OwnsSet.below {w':World} (h:OwnsSet P k e w b ns) (hb:Below w.heap.size w w'):OwnsSet P k e w' b ns:=
 h.kept (row:=none) ⟨hb.os,hb.tape,hb.output,hb.size,fun i hi _=>hb.block i hi⟩ (by simp)
theorem OwnsSet.made (w:World) (P:Program) (k e:TypeId):OwnsSet P k e (w.alloc (.map #[] 0)) w.heap.size []:=World.ownsMap_made w P k _
theorem OwnsSet.put {w':World} {s:ByteArray} (h:w'.ownsMap P k (plainElem (H:=Unit) P e) b (ns.length+1) ((setD ns).put (.string s.data.toList) (.lit (.bool true)))):OwnsSet P k e w' b (s::ns):=h
end
end Go.Proofs.YtcklddldejejcaaGreatDoor
namespace Go.Proofs.YtcklddldejejcaaGreatDoor
open Go Go.Maps Go.ChangeShapes Go.WideShapes Go.ChangeAt Go.RowKit
def onlyB (k:Int) (b:Bool) (n:Int) (t:ByteArray) (l1 l2:Nat):Bool:=
 decide (0≤k) && decide (k≤5) && (!b || decide (k=1)) && (decide (n=0) || decide (k=2)) && (decide (t=⟨#[]⟩) || decide (k=3)) && (decide (l2=0) || decide (4≤k)) && (decide (l1=0) || decide (k=5))
theorem cast_eq0 (l:Nat):((l:Int) == 0)=decide (l=0):=by
 by_cases h:l=0
 ·simp [h]
 ·simp [h]
theorem text_nil (t:ByteArray):t=⟨#[]⟩↔t.toList=[]:=by
 constructor
 ·rintro rfl;rw [ByteArray.toList_eq]
 ·intro h
  rw [ByteArray.toList_eq] at h
  obtain ⟨⟨l⟩⟩:=t
  simp at h
  rw [h]
theorem only_any (k:Int) (b:Bool) (n:Int) (t:ByteArray) (a1 a2:Option Addr) (l1 c1 l2 c2:Nat) (w:World):Calls Tryz.prog 116 #[.agg #[.int .i64 k,.bool b,.int .i64 n,.string t,.slice a1 l1 c1,.slice a2 l2 c2]] w fun e w'=>e=.returned (.bool (onlyB k b n t l1 l2))∧Below w.heap.size w w':=by
 have htn:=text_nil t
 have HT:=Hh htn
 clear htn
 rcases Int.lt_or_le k 0 with hk | hk
 ·go_enter Tryz.func116,Tryz.ntmps116
  go_wp2
  go_ret
  exact ⟨by have:decide (0≤k)=false:=decide_eq_false (by omega);simp [onlyB,this],(Br _ _).alloc (Lr _) _⟩
 rcases Int.lt_or_le 5 k with hk5 | hk5
 ·have hk0:¬k<0:=by omega
  go_enter Tryz.func116,Tryz.ntmps116
  go_wp2
  go_ret
  exact ⟨by have:decide (k≤5)=false:=decide_eq_false (by omega);simp [onlyB,this],(Br _ _).alloc (Lr _) _⟩
 obtain rfl | rfl | rfl | rfl | rfl | rfl:k=0∨k=1∨k=2∨k=3∨k=4∨k=5:=by omega
 all_goals
  go_enter Tryz.func116,Tryz.ntmps116
  go_wp2
  all_goals
   go_ret
   exact ⟨by simp [onlyB,HT.out,cast_eq0, *],(Br _ _).alloc (Lr _) _⟩
theorem Utab.below {w w':World} (h:Utab w) (hb:Below w.heap.size w w'):Utab w':=Utf8Tabs_below h hb
theorem vtext_any (s:ByteArray) (w:World) (hs:s.size≤maxLen - 2) (hT:Utab w):Calls Tryz.prog 117 #[.string s] w fun e w'=>e=.returned (.bool (textOk s))∧Below w.heap.size w w':=by
 unfold maxLen at hs
 have V:=Hh (valid_any s w (by unfold maxLen;omega) hT)
 by_cases h:s.size≤65536
 ·have h1:(s.size:Int)≤65536:=by omega
  have e:textOk s=Lib.validD s.data.toList:=by unfold textOk;rw [decide_eq_true h];rfl
  rw [e]
  clear e hT
  generalize Lib.validD s.data.toList=b at V ⊢
  go_enter Tryz.func117,Tryz.ntmps117
  go_wp2_with (go_at_call 166;(with_reducible refine (V.out).mono ?_);rintro e w1 ⟨rfl,hb⟩)
  go_ret
  exact ⟨rfl,hb⟩
 ·have h1:¬ (s.size:Int)≤65536:=by omega
  have e:textOk s=false:=by unfold textOk;rw [decide_eq_false h];rfl
  rw [e]
  clear e hT
  go_enter Tryz.func117,Tryz.ntmps117
  go_wp2
  go_ret
  exact ⟨rfl,Br _ _⟩
def namesB (ns:List ByteArray) (l2:Nat):Bool:=decide (ns.length=l2) && (ns.all textOk && decide ns.Nodup)
theorem StrsIn.at {S:Nat→Prop} {w:World} {ao:Option Addr} {l cap:Nat} {ns:List ByteArray} (h:StrsIn S w (.slice ao l cap) ns) {j:Nat} (hj:j<ns.length):l=ns.length∧l≤cap∧cap≤maxLen∧∃b off,ao=some ⟨b,off,none⟩∧S b∧w.cell? ⟨b,off+j,none⟩=some (.string ns[j])∧ns[j].size≤maxLen - 2:=by
 obtain ⟨ao',cap',e,h1,h2,h3⟩:=h
 cases e
 obtain ⟨b,off,rfl,hS,hc,hr⟩:=h3 j _ (List.getElem?_eq_getElem hj)
 exact ⟨rfl,h1,h2,b,off,rfl,hS,hc,hr⟩
theorem lawStrN:Keyed Tryz.prog 9:=string_keyed Tryz.underlying9
theorem zeroBool (w:World):(zeroValue 4).run Tryz.prog w=.ok (.bool false) w:=by kernel_rfl
theorem vnames_any {S:Nat→Prop} (k:Int) (b:Bool) (n:Int) (t:ByteArray) (a1 a2:Option Addr) (l1 c1 l2 c2:Nat) (ns:List ByteArray) (w:World) (h:StrsIn S w (.slice a1 l1 c1) ns) (hS:∀b,S b→b<w.heap.size) (hl2:l2≤1000000) (hT:Utab w) :
 Calls Tryz.prog 118 #[.agg #[.int .i64 k,.bool b,.int .i64 n,.string t,.slice a1 l1 c1,.slice a2 l2 c2]] w fun e w'=>e=.returned (.bool (namesB ns l2))∧Below w.heap.size w w':=by
 obtain ⟨ao,cap,e,hc1,hc2,hc3⟩:=id h
 cases e
 unfold maxLen at hc2
 have H:=Hh h
 have HS:=Hh hS
 have HT:=Hh hT
 have hmm:=@run_makeMap Tryz.prog
 clear h hS hT hc3
 by_cases hlen:ns.length=l2
 ·have hlen':((ns.length:Int) != (l2:Int))=false:=by simp [hlen]
  have hl:ns.length≤1000000:=by omega
  have HLEN:=Hh hlen
  have B2:Below w.heap.size w ((w.alloc (.cells #[.int .i64 k,.bool b,.int .i64 n,.string t,.slice a1 ns.length c1,.slice a2 l2 c2] 28)).alloc (.map #[] 0)):=((Br _ _).alloc (Lr _) _).alloc (by simp) _
  have hset:OwnsSet Tryz.prog 9 4 ((w.alloc (.cells #[.int .i64 k,.bool b,.int .i64 n,.string t,.slice a1 ns.length c1,.slice a2 l2 c2] 28)).alloc (.map #[] 0)) (w.heap.size+1) []:=by
   have:=OwnsSet.made (w.alloc (.cells #[.int .i64 k,.bool b,.int .i64 n,.string t,.slice a1 ns.length c1,.slice a2 l2 c2] 28)) Tryz.prog 9 4
   rw [show (w.alloc (.cells #[.int .i64 k,.bool b,.int .i64 n,.string t,.slice a1 ns.length c1,.slice a2 l2 c2] 28)).heap.size=w.heap.size+1 by simp] at this
   exact this
  have HSET:=Hh hset
  clear hset hlen
  go_enter Tryz.func118,Tryz.ntmps118
  go_wp2
  go_loopw [5,17] (fun s5 i wr=>∃j:Nat,i=.int .i64 j∧j≤ns.length∧OwnsSet Tryz.prog 9 4 wr (w.heap.size+1) (ns.take j).reverse∧(∀s,s ∈ ns.take j→textOk s=true)∧(ns.take j).Nodup∧Below w.heap.size w wr) (fun _ i _=>ns.length - (intOf i).toNat)
  case atStart=>exact ⟨0,rfl,Nat.zero_le _,HSET.out,(fun s h=>by simp at h),by simp,B2⟩
  case round=>
   obtain ⟨j,rfl,hj,hset,hok,hnd,hB⟩:=hrel
   clear HSET B2
   by_cases hlt:j<ns.length
   ·have hlt':(j:Int)<(ns.length:Int):=by omega
    have hj0:(0:Int)≤(j:Int):=by omega
    obtain ⟨-,-,-,bb,off,rfl,hSb,hc,hs⟩:=H.out.at hlt
    have hcw:=(hB.cell (p:=⟨bb,off+j,none⟩) (HS.out bb hSb)).trans hc
    obtain ⟨s,hse⟩:∃s,s=ns[j]:=⟨_,rfl⟩
    rw [←hse] at hc hs hcw
    have hsj:ns[j]?=some s:=by rw [List.getElem?_eq_getElem hlt,hse]
    have htk:ns.take (j+1)=ns.take j++[s]:=by rw [List.take_add_one,hsj];rfl
    have V:=Hh (vtext_any s wr hs (HT.out.below hB))
    have hkey:=WideMaps.keyOf_string_mk (P:=Tryz.prog) (k:=9) (s:=s) Tryz.underlying9 (by unfold maxLen at hs ⊢;omega)
    have HTK:=Hh htk
    have HSJ:=Hh hsj
    have HOK:=Hh hok
    have HND:=Hh hnd
    have HST:=Hh hset
    clear hc hs hse hsj htk hok hnd hset
    by_cases hto:textOk s=true
    ·rw [hto] at V
     by_cases hin:s ∈ ns.take j
     ·have hnn:namesB ns l2=false:=by
       have:¬ns.Nodup:=fun hn=>by
        rw [List.nodup_iff_pairwise_ne,List.pairwise_iff_getElem] at hn
        obtain ⟨q,hq,e⟩:=List.getElem_of_mem hin
        rw [List.length_take] at hq
        rw [List.getElem_take] at e
        refine hn q j (by omega) hlt (by omega) ?_
        rw [e]
        have:=HSJ.out
        rw [List.getElem?_eq_getElem hlt] at this
        exact (Option.some.inj this).symm
       unfold namesB
       rw [decide_eq_false this,Bool.and_false,Bool.and_false]
      have HNN:=Hh hnn
      have L:=fun wx (h:OwnsSet Tryz.prog 9 4 wx (w.heap.size+1) (ns.take j).reverse)=>h.look (t:=176) lawStrN Tryz.underlying176 Tryz.underlying4 (zeroBool wx) s hkey
      rw [(inB_iff s _).2 (List.mem_reverse.2 hin)] at L
      have LL:=Hh L
      clear L hnn hin hkey
      go_wp2_with (go_at_call 117;(with_reducible refine (V.out).mono ?_);rintro e w1 ⟨rfl,hb1⟩;(have hlook:=LL.out w1 (HST.out.below hb1));(have hB1:=hB.trans (hb1.mono hB.size));clear hb1 hB)
      go_ret
      exact ⟨by rw [HNN.out];rfl,hB1⟩
     ·have L:=fun wx (h:OwnsSet Tryz.prog 9 4 wx (w.heap.size+1) (ns.take j).reverse)=>h.look (t:=176) lawStrN Tryz.underlying176 Tryz.underlying4 (zeroBool wx) s hkey
      have hinB:inB s (ns.take j).reverse=false:=by
       cases hq:inB s (ns.take j).reverse with
       | false=>rfl
       | true=>exact absurd (List.mem_reverse.1 ((inB_iff s _).1 hq)) hin
      rw [hinB] at L
      have LL:=Hh L
      have HIN:=Hh hin
      have HKEY:=Hh hkey
      have hlr:(ns.take j).reverse.length<1000000:=by rw [List.length_reverse,List.length_take];omega
      have HTO:=Hh hto
      clear L hin hkey hinB hto
      go_wp2_with (first
       | (go_at_call 117;(with_reducible refine (V.out).mono ?_);rintro e w1 ⟨rfl,hb1⟩;(have hlook:=LL.out w1 (HST.out.below hb1));(have hB1:=hB.trans (hb1.mono hB.size));(have hset1:=HST.out.below hb1);clear hb1 hB)
       | (at_mapUpdate;refine wpList_mapUpdate_own _ rfl _ _ _ 176 rfl 9 4 lawStrN Tryz.underlying176 _ (w.heap.size+1) (ns.take j).reverse.length _ rfl hset1 (by unfold maxLen;omega) _ _ _ rfl rfl HKEY.out _ [] (plainElem_bool Tryz.underlying4 true) ?_;intro w2 hown2 hgrow2))
      have hset2:OwnsSet Tryz.prog 9 4 w2 (w.heap.size+1) (s::(ns.take j).reverse):=OwnsSet.put hown2
      have hB2:=gbelow hB1 hgrow2 hB1.size (by omega)
      clear hown2 hgrow2 hB1 hset1 hlook
      go_wp2
      go_roundw
      case rel=>
       refine ⟨j+1,by go_num,by omega,?_,?_,?_,hB2⟩
       ·rw [HTK.out,List.reverse_append];exact hset2
       ·intro y hy
        rw [HTK.out] at hy
        rcases List.mem_append.1 hy with hy | hy
        ·exact HOK.out y hy
        ·cases List.mem_singleton.1 hy;exact HTO.out
       ·rw [HTK.out,List.nodup_append]
        refine ⟨HND.out,by simp,fun a ha b hb=>?_⟩
        cases List.mem_singleton.1 hb
        intro e
        subst e
        exact HIN.out ha
      case measure=>simp [intOf];omega
    ·have hnn:namesB ns l2=false:=by
      have:ns.all textOk=false:=by
       cases hq:ns.all textOk with
       | false=>rfl
       | true=>exact absurd (List.all_eq_true.1 hq s (List.mem_of_getElem? HSJ.out)) hto
      unfold namesB
      rw [this,Bool.false_and,Bool.and_false]
     have HNN:=Hh hnn
     have hto':textOk s=false:=by simpa using hto
     rw [hto'] at V
     clear hnn hto hto' hkey
     go_wp2_with (go_at_call 117;(with_reducible refine (V.out).mono ?_);rintro e w1 ⟨rfl,hb1⟩;(have hB1:=hB.trans (hb1.mono hB.size));clear hb1 hB)
     go_ret
     exact ⟨by rw [HNN.out];rfl,hB1⟩
   ·have hlt':¬ (j:Int)<(ns.length:Int):=by omega
    have hjl:ns.take j=ns:=List.take_of_length_le (by omega)
    have hnn:namesB ns l2=true:=by
     rw [hjl] at hok hnd
     unfold namesB
     rw [decide_eq_true HLEN.out,List.all_eq_true.2 hok,decide_eq_true hnd]
     rfl
    have HNN:=Hh hnn
    clear hnn hjl hset hok hnd
    go_wp2
    go_ret
    exact ⟨by rw [HNN.out];rfl,hB⟩
 ·have hlen':((ns.length:Int) != (l2:Int))=true:=by simp;omega
  have e:namesB ns l2=false:=by unfold namesB;rw [decide_eq_false hlen];rfl
  rw [e]
  clear e hlen
  go_enter Tryz.func118,Tryz.ntmps118
  go_wp2
  go_ret
  exact ⟨rfl,(Br _ _).alloc (Lr _) _⟩
theorem wpList_insert_own {H:Type} {P:Program} (w:World) {ops:Array Oper} {rest:List Oper} {o:Oper} {a:Act} {Q:Exit→Act→World→Prop}
 (hg:o.guard=none) (m x v:Operand) (t:TypeId) (hop:o.op=Op.insert t m x v)
 (k e:TypeId) (K:Keyed P k) (ht:P.underlying t=some (.map k e)) (R:Value→Option (DataW H × List MemPlace)) (b n:Nat) (D:DataW H)
 (hm:a.eval m=.map (some b)) (hown:w.ownsMap P k R b n D) (hn:n<maxLen) (key val:Value) (kl:Lit) (hx:a.eval x=key) (hv:a.eval v=val) (hkey:keyOf P k key=some kl)
 (d:DataW H) (ps:List MemPlace) (hval:R val=some (d,ps))
 (hK:∀w',w'.ownsMap P k R b (n+1) (D.put kl d)→w.grownBy w' (some b)→wpList P ops Q rest (a.put o.dst undef) w') :
 wpList P ops Q (o::rest) a w:=by
 refine wpList_plain hg fun K' hK'=>?_
 obtain ⟨w',hrun,r1,r2⟩:=hown.update K ht hn hkey hval
 unfold Oper.wp
 simp [execOp,hop,hm,hx,hv,hrun,Result.andThen]
 exact hK' _ _ (hK w' r1 r2)
theorem putZ_has {D:DataW Unit} (hD:IsMap D) (q:IntKind) (c l:Int) (d:DataW Unit):Maps.has (D.put (.int q c) d) (.int q l)=(decide (l=c) || Maps.has D (.int q l)):=by
 by_cases h:l=c
 ·subst h;rw [has_put_same hD (show WideAt.IsKeyLit (.int q l) from trivial),decide_eq_true rfl];rfl
 ·rw [has_put_other (by intro e;cases e;exact h rfl),decide_eq_false h];rfl
theorem putZ_at {D:DataW Unit} (hD:IsMap D) (q:IntKind) (c l:Int) (d z:DataW Unit):(D.put (.int q c) d).atKey (.int q l) z=if l=c then d else D.atKey (.int q l) z:=by
 by_cases h:l=c
 ·subst h;rw [atKey_put_same hD (show WideAt.IsKeyLit (.int q l) from trivial),if_pos rfl]
 ·rw [atKey_put_other (by intro e;cases e;exact h rfl),if_neg h]
def lettersD:DataW Unit:=((((((((DataW.map []).put (.int .u8 34) (.lit (.string [34]))).put (.int .u8 92) (.lit (.string [92]))).put (.int .u8 8) (.lit (.string [98]))).put (.int .u8 9) (.lit (.string [116]))).put (.int .u8 10) (.lit (.string [110]))).put (.int .u8 12) (.lit (.string [102]))).put (.int .u8 13) (.lit (.string [114])))
def letZ (c:Int):Option UInt8:=if c=34 then some 34 else if c=92 then some 92 else if c=8 then some 98 else if c=9 then some 116 else if c=10 then some 110 else if c=12 then some 102 else if c=13 then some 114 else none
theorem letters_look (c:Int):Maps.has lettersD (.int .u8 c)=(letZ c).isSome∧∀z,lettersD.atKey (.int .u8 c) z=match letZ c with | some l=>.lit (.string [l]) | none=>z:=by
 have i0:IsMap (.map []:DataW Unit):=isMap_empty
 have i1:=i0.put (.int .u8 34) (.lit (.string [34]))
 have i2:=i1.put (.int .u8 92) (.lit (.string [92]))
 have i3:=i2.put (.int .u8 8) (.lit (.string [98]))
 have i4:=i3.put (.int .u8 9) (.lit (.string [116]))
 have i5:=i4.put (.int .u8 10) (.lit (.string [110]))
 have i6:=i5.put (.int .u8 12) (.lit (.string [102]))
 unfold lettersD
 refine ⟨?_,fun z=>?_⟩
 ·rw [putZ_has i6,putZ_has i5,putZ_has i4,putZ_has i3,putZ_has i2,putZ_has i1,putZ_has i0,show Maps.has (.map []:DataW Unit) (.int .u8 c)=false from rfl]
  unfold letZ
  by_cases h1:c=13
  ·subst h1;rfl
  by_cases h2:c=12
  ·subst h2;rfl
  by_cases h3:c=10
  ·subst h3;rfl
  by_cases h4:c=9
  ·subst h4;rfl
  by_cases h5:c=8
  ·subst h5;rfl
  by_cases h6:c=92
  ·subst h6;rfl
  by_cases h7:c=34
  ·subst h7;rfl
  simp [h1,h2,h3,h4,h5,h6,h7]
 ·rw [putZ_at i6,putZ_at i5,putZ_at i4,putZ_at i3,putZ_at i2,putZ_at i1,putZ_at i0,show (.map []:DataW Unit).atKey (.int .u8 c) z=z from rfl]
  unfold letZ
  by_cases h1:c=13
  ·subst h1;rfl
  by_cases h2:c=12
  ·subst h2;rfl
  by_cases h3:c=10
  ·subst h3;rfl
  by_cases h4:c=9
  ·subst h4;rfl
  by_cases h5:c=8
  ·subst h5;rfl
  by_cases h6:c=92
  ·subst h6;rfl
  by_cases h7:c=34
  ·subst h7;rfl
  simp [h1,h2,h3,h4,h5,h6,h7]
theorem lawU8:Keyed Tryz.prog 5:=int_keyed Tryz.underlying5
theorem zeroStrE (w:World):(zeroValue 9).run Tryz.prog w=.ok (.string ⟨#[]⟩) w:=by kernel_rfl
def Letters (w:World) (m:Nat):Prop:=w.ownsMap Tryz.prog 5 (plainElem (H:=Unit) Tryz.prog 9) m 7 lettersD
theorem Letters.kept {w w':World} {m:Nat} {row:Option Nat} (h:Letters w m) (hg:w.grownBy w' row) (hne:some m ≠ row):Letters w' m:=World.ownsMap.kept h hg hne
theorem Letters.below {w w':World} {m:Nat} (h:Letters w m) (hb:Below w.heap.size w w'):Letters w' m:=h.kept (grown_of_below hb (Lr _) none) (by simp)
theorem Letters.same {w w':World} {m:Nat} (h:Letters w m) (hb:w'.heap[m]?=w.heap[m]?):Letters w' m:=by
 obtain ⟨es,clock,h1,F,hs,hD⟩:=h
 exact ⟨es,clock,hb.trans h1,F,hs,hD⟩
theorem Letters.lt {w:World} {m:Nat} (h:Letters w m):m<w.heap.size:=World.ownsMap.lt h
theorem Letters.look {w:World} {m:Nat} (h:Letters w m) {c:Int} (hc:0≤c) (hc2:c≤255):(Instr.lookup 198 (.map (some m)) (.int .u8 c) true).run Tryz.prog w=.ok (.tuple #[.string (match letZ c with | some l=>⟨#[l]⟩ | none=>⟨#[]⟩),.bool (letZ c).isSome]) w:=by
 have hwf:(Lit.int IntKind.u8 c).wf=true:=by simp [Lit.wf,IntKind.min,IntKind.max,IntKind.signed,IntKind.bits];omega
 obtain ⟨v,ps,hrun,hv⟩:=World.ownsMap.look_ok h lawU8 Tryz.underlying198 (zeroStrE w) (plainElem_string Tryz.underlying9 (by decide)) (keyOf_int_mk Tryz.underlying5 hwf)
 obtain ⟨s,rfl,e',_⟩:=plainElem_string_inv Tryz.underlying9 hv
 obtain ⟨l1,l2⟩:=letters_look c
 rw [hrun,l1]
 rw [l2] at e'
 have hs:s=(match letZ c with | some l=>⟨#[l]⟩ | none=>⟨#[]⟩):=by
  cases hq:letZ c with
  | none=>
   rw [hq] at e'
   simp only [Prod.mk.injEq,DataW.lit.injEq,Lit.string.injEq] at e'
   exact ByteArray.ext (Array.toList_inj.1 e'.1.symm)
  | some l=>
   rw [hq] at e'
   simp only [Prod.mk.injEq,DataW.lit.injEq,Lit.string.injEq] at e'
   exact ByteArray.ext (Array.toList_inj.1 e'.1.symm)
 rw [←hs]
theorem letters_any (w:World):Calls Tryz.prog 192 #[] w fun e w'=>e=.returned (.map (some w.heap.size))∧Letters w' w.heap.size∧Below w.heap.size w w':=by
 have hmm:=@run_makeMap Tryz.prog
 have h0:=World.ownsMap_made (H:=Unit) w Tryz.prog 5 (plainElem (H:=Unit) Tryz.prog 9)
 have b0:=(Br w.heap.size w).alloc (o:=.map #[] 0) (Lr _)
 have H0:=Hh h0
 have B0:=Hh b0
 clear h0 b0
 go_enter Tryz.func192,Tryz.ntmps192
 go_wp2_with (first
  | (refine wpList_insert_own _ rfl _ _ _ 198 rfl 5 9 lawU8 Tryz.underlying198 _ w.heap.size 6 _ rfl h6 (by unfold maxLen;omega) _ _ _ rfl rfl (keyOf_int_mk Tryz.underlying5 (a:=13) (by decide)) _ [] (plainElem_string Tryz.underlying9 (s:=⟨#[114]⟩) (by decide)) ?_;intro w7 h7 g7;(have b7:=gbelow b6 g7 (b6.size) (Lr _)))
  | (refine wpList_insert_own _ rfl _ _ _ 198 rfl 5 9 lawU8 Tryz.underlying198 _ w.heap.size 5 _ rfl h5 (by unfold maxLen;omega) _ _ _ rfl rfl (keyOf_int_mk Tryz.underlying5 (a:=12) (by decide)) _ [] (plainElem_string Tryz.underlying9 (s:=⟨#[102]⟩) (by decide)) ?_;intro w6 h6 g6;(have b6:=gbelow b5 g6 (b5.size) (Lr _)))
  | (refine wpList_insert_own _ rfl _ _ _ 198 rfl 5 9 lawU8 Tryz.underlying198 _ w.heap.size 4 _ rfl h4 (by unfold maxLen;omega) _ _ _ rfl rfl (keyOf_int_mk Tryz.underlying5 (a:=10) (by decide)) _ [] (plainElem_string Tryz.underlying9 (s:=⟨#[110]⟩) (by decide)) ?_;intro w5 h5 g5;(have b5:=gbelow b4 g5 (b4.size) (Lr _)))
  | (refine wpList_insert_own _ rfl _ _ _ 198 rfl 5 9 lawU8 Tryz.underlying198 _ w.heap.size 3 _ rfl h3 (by unfold maxLen;omega) _ _ _ rfl rfl (keyOf_int_mk Tryz.underlying5 (a:=9) (by decide)) _ [] (plainElem_string Tryz.underlying9 (s:=⟨#[116]⟩) (by decide)) ?_;intro w4 h4 g4;(have b4:=gbelow b3 g4 (b3.size) (Lr _)))
  | (refine wpList_insert_own _ rfl _ _ _ 198 rfl 5 9 lawU8 Tryz.underlying198 _ w.heap.size 2 _ rfl h2 (by unfold maxLen;omega) _ _ _ rfl rfl (keyOf_int_mk Tryz.underlying5 (a:=8) (by decide)) _ [] (plainElem_string Tryz.underlying9 (s:=⟨#[98]⟩) (by decide)) ?_;intro w3 h3 g3;(have b3:=gbelow b2 g3 (b2.size) (Lr _)))
  | (refine wpList_insert_own _ rfl _ _ _ 198 rfl 5 9 lawU8 Tryz.underlying198 _ w.heap.size 1 _ rfl h1 (by unfold maxLen;omega) _ _ _ rfl rfl (keyOf_int_mk Tryz.underlying5 (a:=92) (by decide)) _ [] (plainElem_string Tryz.underlying9 (s:=⟨#[92]⟩) (by decide)) ?_;intro w2 h2 g2;(have b2:=gbelow b1 g2 (b1.size) (Lr _)))
  | (refine wpList_insert_own _ rfl _ _ _ 198 rfl 5 9 lawU8 Tryz.underlying198 _ w.heap.size 0 _ rfl H0.out (by unfold maxLen;omega) _ _ _ rfl rfl (keyOf_int_mk Tryz.underlying5 (a:=34) (by decide)) _ [] (plainElem_string Tryz.underlying9 (s:=⟨#[34]⟩) (by decide)) ?_;intro w1 h1 g1;(have b1:=gbelow B0.out g1 (B0.out.size) (Lr _))))
 go_ret
 exact ⟨rfl,h7,b7⟩
end Go.Proofs.YtcklddldejejcaaGreatDoor