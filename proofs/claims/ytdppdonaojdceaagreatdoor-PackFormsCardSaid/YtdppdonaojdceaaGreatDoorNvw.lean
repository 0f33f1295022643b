/- Valid: only the fields of its kind. Then: Valid: the program's own functions. Then: Valid: the recursion over the items, which goes by a closure. -/
import Derived.Test.YtdppdonaojdceaaGreatDoorJdor7
import Derived.Test.YtdppdonaojdceaaGreatDoorMfc
set_option linter.unusedVariables false
set_option linter.unusedSimpArgs false
set_option maxHeartbeats 3200000
set_option maxRecDepth 100000
namespace Go.Proofs.YtdppdonaojdceaaGreatDoor
open Go Go.Maps Go.ChangeShapes Go.WideShapes Go.ChangeAt Go.RowKit
def onlyB (k:Int) (b:Bool) (n:Int) (t:ByteArray) (l1 l2:Nat):Bool:=
 decide (0≤k) && decide (k≤5) && (!b || decide (k=1)) && (decide (n=0) || decide (k=2)) && (decide (t=⟨#[]⟩) || decide (k=3)) && (decide (l2=0) || decide (4≤k)) && (decide (l1=0) || decide (k=5))
theorem cast_eq0 (l:Nat):((l:Int) == 0)=decide (l=0):=by
 by_cases h:l=0
 ·simp [h]
 ·simp [h]
theorem text_nil (t:ByteArray):t=⟨#[]⟩↔t.toList=[]:=by
 constructor
 ·rintro rfl;rw [ByteArray.toList_eq]
 ·intro h
  rw [ByteArray.toList_eq] at h
  obtain ⟨⟨l⟩⟩:=t
  simp at h
  rw [h]
theorem only_any (k:Int) (b:Bool) (n:Int) (t:ByteArray) (a1 a2:Option Addr) (l1 c1 l2 c2:Nat) (w:World):Calls Tryz.prog 85 #[.agg #[.int .i64 k,.bool b,.int .i64 n,.string t,.slice a1 l1 c1,.slice a2 l2 c2]] w fun e w'=>e=.returned (.bool (onlyB k b n t l1 l2))∧Below w.heap.size w w':=by
 have htn:=text_nil t
 have HT:=Hh htn
 clear htn
 rcases Int.lt_or_le k 0 with hk | hk
 ·go_enter Tryz.func85,Tryz.ntmps85
  go_wp2
  go_ret
  exact ⟨by have:decide (0≤k)=false:=decide_eq_false (by omega);simp [onlyB,this],(Br _ _).alloc (Lr _) _⟩
 rcases Int.lt_or_le 5 k with hk5 | hk5
 ·have hk0:¬k<0:=by omega
  go_enter Tryz.func85,Tryz.ntmps85
  go_wp2
  go_ret
  exact ⟨by have:decide (k≤5)=false:=decide_eq_false (by omega);simp [onlyB,this],(Br _ _).alloc (Lr _) _⟩
 obtain rfl | rfl | rfl | rfl | rfl | rfl:k=0∨k=1∨k=2∨k=3∨k=4∨k=5:=by omega
 all_goals
  go_enter Tryz.func85,Tryz.ntmps85
  go_wp2
  all_goals
   go_ret
   exact ⟨by simp [onlyB,HT.out,cast_eq0, *],(Br _ _).alloc (Lr _) _⟩
theorem Utab.below {w w':World} (h:Utab w) (hb:Below w.heap.size w w'):Utab w':=Utf8Tabs_below h hb
theorem vtext_any (s:ByteArray) (w:World) (hs:s.size≤maxLen - 2) (hT:Utab w):Calls Tryz.prog 86 #[.string s] w fun e w'=>e=.returned (.bool (textOk s))∧Below w.heap.size w w':=by
 unfold maxLen at hs
 have V:=Hh (valid_any s w (by unfold maxLen;omega) hT)
 by_cases h:s.size≤65536
 ·have h1:(s.size:Int)≤65536:=by omega
  have e:textOk s=Lib.validD s.data.toList:=by unfold textOk;rw [decide_eq_true h];rfl
  rw [e]
  clear e hT
  generalize Lib.validD s.data.toList=b at V ⊢
  go_enter Tryz.func86,Tryz.ntmps86
  go_wp2_with (go_at_call 84;(with_reducible refine (V.out).mono ?_);rintro e w1 ⟨rfl,hb⟩)
  go_ret
  exact ⟨rfl,hb⟩
 ·have h1:¬ (s.size:Int)≤65536:=by omega
  have e:textOk s=false:=by unfold textOk;rw [decide_eq_false h];rfl
  rw [e]
  clear e hT
  go_enter Tryz.func86,Tryz.ntmps86
  go_wp2
  go_ret
  exact ⟨rfl,Br _ _⟩
def namesB (ns:List ByteArray) (l2:Nat):Bool:=decide (ns.length=l2) && (ns.all textOk && decide ns.Nodup)
theorem StrsIn.at {S:Nat→Prop} {w:World} {ao:Option Addr} {l cap:Nat} {ns:List ByteArray} (h:StrsIn S w (.slice ao l cap) ns) {j:Nat} (hj:j<ns.length):l=ns.length∧l≤cap∧cap≤maxLen∧∃b off,ao=some ⟨b,off,none⟩∧S b∧w.cell? ⟨b,off+j,none⟩=some (.string ns[j])∧ns[j].size≤maxLen - 2:=by
 obtain ⟨ao',cap',e,h1,h2,h3⟩:=h
 cases e
 obtain ⟨b,off,rfl,hS,hc,hr⟩:=h3 j _ (List.getElem?_eq_getElem hj)
 exact ⟨rfl,h1,h2,b,off,rfl,hS,hc,hr⟩
theorem lawStrN:Keyed Tryz.prog 9:=string_keyed Tryz.underlying9
theorem zeroBool (w:World):(zeroValue 4).run Tryz.prog w=.ok (.bool false) w:=by kernel_rfl
theorem vnames_any {S:Nat→Prop} (k:Int) (b:Bool) (n:Int) (t:ByteArray) (a1 a2:Option Addr) (l1 c1 l2 c2:Nat) (ns:List ByteArray) (w:World) (h:StrsIn S w (.slice a1 l1 c1) ns) (hS:∀b,S b→b<w.heap.size) (hl2:l2≤1000000) (hT:Utab w) :
 Calls Tryz.prog 87 #[.agg #[.int .i64 k,.bool b,.int .i64 n,.string t,.slice a1 l1 c1,.slice a2 l2 c2]] w fun e w'=>e=.returned (.bool (namesB ns l2))∧Below w.heap.size w w':=by
 obtain ⟨ao,cap,e,hc1,hc2,hc3⟩:=id h
 cases e
 unfold maxLen at hc2
 have H:=Hh h
 have HS:=Hh hS
 have HT:=Hh hT
 have hmm:=@run_makeMap Tryz.prog
 clear h hS hT hc3
 by_cases hlen:ns.length=l2
 ·have hlen':((ns.length:Int) != (l2:Int))=false:=by simp [hlen]
  have hl:ns.length≤1000000:=by omega
  have HLEN:=Hh hlen
  have B2:Below w.heap.size w ((w.alloc (.cells #[.int .i64 k,.bool b,.int .i64 n,.string t,.slice a1 ns.length c1,.slice a2 l2 c2] 30)).alloc (.map #[] 0)):=((Br _ _).alloc (Lr _) _).alloc (by simp) _
  have hset:OwnsSet Tryz.prog 9 4 ((w.alloc (.cells #[.int .i64 k,.bool b,.int .i64 n,.string t,.slice a1 ns.length c1,.slice a2 l2 c2] 30)).alloc (.map #[] 0)) (w.heap.size+1) []:=by
   have:=OwnsSet.made (w.alloc (.cells #[.int .i64 k,.bool b,.int .i64 n,.string t,.slice a1 ns.length c1,.slice a2 l2 c2] 30)) Tryz.prog 9 4
   rw [show (w.alloc (.cells #[.int .i64 k,.bool b,.int .i64 n,.string t,.slice a1 ns.length c1,.slice a2 l2 c2] 30)).heap.size=w.heap.size+1 by simp] at this
   exact this
  have HSET:=Hh hset
  clear hset hlen
  go_enter Tryz.func87,Tryz.ntmps87
  go_wp2
  go_loopw [5,17] (fun s5 i wr=>∃j:Nat,i=.int .i64 j∧j≤ns.length∧OwnsSet Tryz.prog 9 4 wr (w.heap.size+1) (ns.take j).reverse∧(∀s,s ∈ ns.take j→textOk s=true)∧(ns.take j).Nodup∧Below w.heap.size w wr) (fun _ i _=>ns.length - (intOf i).toNat)
  case atStart=>exact ⟨0,rfl,Nat.zero_le _,HSET.out,(fun s h=>by simp at h),by simp,B2⟩
  case round=>
   obtain ⟨j,rfl,hj,hset,hok,hnd,hB⟩:=hrel
   clear HSET B2
   by_cases hlt:j<ns.length
   ·have hlt':(j:Int)<(ns.length:Int):=by omega
    have hj0:(0:Int)≤(j:Int):=by omega
    obtain ⟨-,-,-,bb,off,rfl,hSb,hc,hs⟩:=H.out.at hlt
    have hcw:=(hB.cell (p:=⟨bb,off+j,none⟩) (HS.out bb hSb)).trans hc
    obtain ⟨s,hse⟩:∃s,s=ns[j]:=⟨_,rfl⟩
    rw [←hse] at hc hs hcw
    have hsj:ns[j]?=some s:=by rw [List.getElem?_eq_getElem hlt,hse]
    have htk:ns.take (j+1)=ns.take j++[s]:=by rw [List.take_add_one,hsj];rfl
    have V:=Hh (vtext_any s wr hs (HT.out.below hB))
    have hkey:=WideMaps.keyOf_string_mk (P:=Tryz.prog) (k:=9) (s:=s) Tryz.underlying9 (by unfold maxLen at hs ⊢;omega)
    have HTK:=Hh htk
    have HSJ:=Hh hsj
    have HOK:=Hh hok
    have HND:=Hh hnd
    have HST:=Hh hset
    clear hc hs hse hsj htk hok hnd hset
    by_cases hto:textOk s=true
    ·rw [hto] at V
     by_cases hin:s ∈ ns.take j
     ·have hnn:namesB ns l2=false:=by
       have:¬ns.Nodup:=fun hn=>by
        rw [List.nodup_iff_pairwise_ne,List.pairwise_iff_getElem] at hn
        obtain ⟨q,hq,e⟩:=List.getElem_of_mem hin
        rw [List.length_take] at hq
        rw [List.getElem_take] at e
        refine hn q j (by omega) hlt (by omega) ?_
        rw [e]
        have:=HSJ.out
        rw [List.getElem?_eq_getElem hlt] at this
        exact (Option.some.inj this).symm
       unfold namesB
       rw [decide_eq_false this,Bool.and_false,Bool.and_false]
      have HNN:=Hh hnn
      have L:=fun wx (h:OwnsSet Tryz.prog 9 4 wx (w.heap.size+1) (ns.take j).reverse)=>h.look (t:=68) lawStrN Tryz.underlying68 Tryz.underlying4 (zeroBool wx) s hkey
      rw [(inB_iff s _).2 (List.mem_reverse.2 hin)] at L
      have LL:=Hh L
      clear L hnn hin hkey
      go_wp2_with (go_at_call 86;(with_reducible refine (V.out).mono ?_);rintro e w1 ⟨rfl,hb1⟩;(have hlook:=LL.out w1 (HST.out.below hb1));(have hB1:=hB.trans (hb1.mono hB.size));clear hb1 hB)
      go_ret
      exact ⟨by rw [HNN.out];rfl,hB1⟩
     ·have L:=fun wx (h:OwnsSet Tryz.prog 9 4 wx (w.heap.size+1) (ns.take j).reverse)=>h.look (t:=68) lawStrN Tryz.underlying68 Tryz.underlying4 (zeroBool wx) s hkey
      have hinB:inB s (ns.take j).reverse=false:=by
       cases hq:inB s (ns.take j).reverse with
       | false=>rfl
       | true=>exact absurd (List.mem_reverse.1 ((inB_iff s _).1 hq)) hin
      rw [hinB] at L
      have LL:=Hh L
      have HIN:=Hh hin
      have HKEY:=Hh hkey
      have hlr:(ns.take j).reverse.length<1000000:=by rw [List.length_reverse,List.length_take];omega
      have HTO:=Hh hto
      clear L hin hkey hinB hto
      go_wp2_with (first
       | (go_at_call 86;(with_reducible refine (V.out).mono ?_);rintro e w1 ⟨rfl,hb1⟩;(have hlook:=LL.out w1 (HST.out.below hb1));(have hB1:=hB.trans (hb1.mono hB.size));(have hset1:=HST.out.below hb1);clear hb1 hB)
       | (at_mapUpdate;refine wpList_mapUpdate_own _ rfl _ _ _ 68 rfl 9 4 lawStrN Tryz.underlying68 _ (w.heap.size+1) (ns.take j).reverse.length _ rfl hset1 (by unfold maxLen;omega) _ _ _ rfl rfl HKEY.out _ [] (plainElem_bool Tryz.underlying4 true) ?_;intro w2 hown2 hgrow2))
      have hset2:OwnsSet Tryz.prog 9 4 w2 (w.heap.size+1) (s::(ns.take j).reverse):=OwnsSet.put hown2
      have hB2:=gbelow hB1 hgrow2 hB1.size (by omega)
      clear hown2 hgrow2 hB1 hset1 hlook
      go_wp2
      go_roundw
      case rel=>
       refine ⟨j+1,by go_num,by omega,?_,?_,?_,hB2⟩
       ·rw [HTK.out,List.reverse_append];exact hset2
       ·intro y hy
        rw [HTK.out] at hy
        rcases List.mem_append.1 hy with hy | hy
        ·exact HOK.out y hy
        ·cases List.mem_singleton.1 hy;exact HTO.out
       ·rw [HTK.out,List.nodup_append]
        refine ⟨HND.out,by simp,fun a ha b hb=>?_⟩
        cases List.mem_singleton.1 hb
        intro e
        subst e
        exact HIN.out ha
      case measure=>simp [intOf];omega
    ·have hnn:namesB ns l2=false:=by
      have:ns.all textOk=false:=by
       cases hq:ns.all textOk with
       | false=>rfl
       | true=>exact absurd (List.all_eq_true.1 hq s (List.mem_of_getElem? HSJ.out)) hto
      unfold namesB
      rw [this,Bool.false_and,Bool.and_false]
     have HNN:=Hh hnn
     have hto':textOk s=false:=by simpa using hto
     rw [hto'] at V
     clear hnn hto hto' hkey
     go_wp2_with (go_at_call 86;(with_reducible refine (V.out).mono ?_);rintro e w1 ⟨rfl,hb1⟩;(have hB1:=hB.trans (hb1.mono hB.size));clear hb1 hB)
     go_ret
     exact ⟨by rw [HNN.out];rfl,hB1⟩
   ·have hlt':¬ (j:Int)<(ns.length:Int):=by omega
    have hjl:ns.take j=ns:=List.take_of_length_le (by omega)
    have hnn:namesB ns l2=true:=by
     rw [hjl] at hok hnd
     unfold namesB
     rw [decide_eq_true HLEN.out,List.all_eq_true.2 hok,decide_eq_true hnd]
     rfl
    have HNN:=Hh hnn
    clear hnn hjl hset hok hnd
    go_wp2
    go_ret
    exact ⟨by rw [HNN.out];rfl,hB⟩
 ·have hlen':((ns.length:Int) != (l2:Int))=true:=by simp;omega
  have e:namesB ns l2=false:=by unfold namesB;rw [decide_eq_false hlen];rfl
  rw [e]
  clear e hlen
  go_enter Tryz.func87,Tryz.ntmps87
  go_wp2
  go_ret
  exact ⟨rfl,(Br _ _).alloc (Lr _) _⟩
end Go.Proofs.YtdppdonaojdceaaGreatDoor
namespace Go.Proofs.YtdppdonaojdceaaGreatDoor
open Go Go.ChangeShapes Go.WideShapes Go.ChangeAt Go.RowKit
def lowV:Nat→ND→Prop
 | 0,_=>True
 | d+1,x=>x.items.length≤1000000∧∀y,y ∈ x.items→lowV d y
theorem lowV_of_lowN:∀ {d:Nat} {x:ND},lowN d x→lowV d x
 | 0,_,_=>trivial
 | d+1,x,h=>⟨h.2.1,fun y hy=>lowV_of_lowN (h.2.2 y hy)⟩
def ValidAt (d:Nat):Prop:=∀ (D:Nat) (S:Nat→Prop) (cs:List Value) (x:ND) (w:World),NodeIn D S w cs x→(∀b,S b→b<w.heap.size)→lowV D x→Utab w→Calls Tryz.prog 51 #[.agg cs.toArray,.int .i64 (d:Int)] w fun e w'=>e=.returned (.bool (validN d x))∧Below w.heap.size w w'
theorem wrong_any {d:Nat} (HV:ValidAt d) (hd:d<100) (p:Nat) {D:Nat} {S:Nat→Prop} (cs:List Value) (y:ND) (w:World) (h:NodeIn D S w cs y) (hS:∀b,S b→b<w.heap.size) (hl:lowV D y) (hT:Utab w) (hp:p<w.heap.size) (hc:w.cell? ⟨p,0,none⟩=some (.int .i64 ((d:Int)+1))) :
 Calls Tryz.prog 88 #[.agg cs.toArray,.pointer (some ⟨p,0,none⟩)] w fun e w'=>e=.returned (.bool (!validN d y))∧Below w.heap.size w w':=by
 obtain ⟨a1,l1,c1,a2,l2,c2,rfl⟩:=h.slices
 have b1:=(Br w.heap.size w).alloc (o:=.cells #[.int .i64 y.kind,.bool y.bool,.int .i64 y.num,.string y.text,.slice a1 l1 c1,.slice a2 l2 c2] 30) (Lr _)
 have V:=Hh (HV D S _ y (w.alloc (.cells #[.int .i64 y.kind,.bool y.bool,.int .i64 y.num,.string y.text,.slice a1 l1 c1,.slice a2 l2 c2] 30)) (h.same fun b hb=>b1.block b (hS b hb)) (fun b hb=>Ll (hS b hb) b1.size) hl (hT.below b1))
 have hc1:=(b1.cell (p:=⟨p,0,none⟩) hp).trans hc
 have hpn:¬p=w.heap.size:=by omega
 have HB:=Hh b1
 have hd1:((d:Int)+1 - 1)=(d:Int):=by omega
 have hdw:IntKind.i64.wrap (d:Int)=(d:Int):=IntWalk.i64_in _ (by omega)
 generalize validN d y=vb at V ⊢
 clear h hS hl hT b1 HV
 go_enter Tryz.func88,Tryz.ntmps88
 go_wp2_with (go_at_call 51;(with_reducible refine (V.out).mono ?_);rintro e w2 ⟨rfl,hb2⟩)
 go_ret
 exact ⟨rfl,HB.out.trans (hb2.mono HB.out.size)⟩
def IdxPost (bad:Bool) (w:World) (e:Ending) (w':World):Prop:=∃z:Int,e=.returned (.int .i64 z)∧decide (0≤z)=bad∧Below w.heap.size w w'
theorem index_any {d:Nat} (HV:ValidAt d) (hd:d<100) (p:Nat) {D:Nat} {S:Nat→Prop} (v:Value) (its:List ND) (w:World) (h:NodesIn (NodeIn D S w) S w v its) (hS:∀b,S b→b<w.heap.size) (hl:∀y,y ∈ its→lowV D y) (hT:Utab w) (hp:p<w.heap.size) (hc:w.cell? ⟨p,0,none⟩=some (.int .i64 ((d:Int)+1))) :
 Calls Tryz.prog 114 #[v,.func (.func 88) #[] #[.pointer (some ⟨p,0,none⟩)]] w (IdxPost (!its.all (validN d)) w):=by
 obtain ⟨ao,cap,rfl,hc1,hc2,hc3⟩:=h
 have H:Hid (NodesIn (NodeIn D S w) S w (.slice ao its.length cap) its):=Hh ⟨ao,cap,rfl,hc1,hc2,hc3⟩
 unfold maxLen at hc2
 have HL:=Hh hl
 have HS:=Hh hS
 have HT:=Hh hT
 have HC:=Hh hc
 have HP:=Hh hp
 have HVV:=Hh HV
 clear hl hS hT hc hp hc3 HV
 go_enter Tryz.func114,Tryz.ntmps114
 go_wp2
 go_loopw [5,8] (fun i5 i wr=>∃j:Nat,i=.int .i64 j∧j≤its.length∧(∀y,y ∈ its.take j→validN d y=true)∧Below w.heap.size w wr) (fun _ i _=>its.length - (intOf i).toNat)
 case atStart=>exact ⟨0,rfl,Nat.zero_le _,(fun y hy=>by simp at hy),Br _ _⟩
 case round=>
  obtain ⟨j,rfl,hj,hok,hB⟩:=hrel
  by_cases hlt:j<its.length
  ·have hlt':(j:Int)<(its.length:Int):=by omega
   have hj0:(0:Int)≤(j:Int):=by omega
   obtain ⟨-,-,-,b,off,x,a1,l1,c1,a2,l2,c2,rfl,hSb,hx,hnd,k0,k1,k2,k3,k4,k5⟩:=H.out.at hlt
   have hbw:=HS.out b hSb
   have q0:=(hB.cell (p:=⟨b,off+j * 6,none⟩) hbw).trans k0
   have q1:=(hB.cell (p:=⟨b,off+j * 6+1,none⟩) hbw).trans k1
   have q2:=(hB.cell (p:=⟨b,off+j * 6+2,none⟩) hbw).trans k2
   have q3:=(hB.cell (p:=⟨b,off+j * 6+3,none⟩) hbw).trans k3
   have q4:=(hB.cell (p:=⟨b,off+j * 6+4,none⟩) hbw).trans k4
   have q5:=(hB.cell (p:=⟨b,off+j * 6+5,none⟩) hbw).trans k5
   clear k0 k1 k2 k3 k4 k5
   have W:=Hh (wrong_any HVV.out hd p _ x wr (hnd.same fun b hb=>hB.block b (HS.out b hb)) (fun b hb=>Ll (HS.out b hb) hB.size) (HL.out x (List.mem_of_getElem? hx)) (HT.out.below hB) (Ll HP.out hB.size) ((hB.cell (p:=⟨p,0,none⟩) HP.out).trans HC.out))
   have HX:=Hh hx
   have HOK:=Hh hok
   clear hx hok hnd
   cases hv:validN d x with
   | true=>
    rw [hv] at W
    have HV1:=Hh hv
    clear hv
    go_wp2_with (go_at_call 88;(with_reducible refine (W.out).mono ?_);rintro e w1 ⟨rfl,hb1⟩;(have hB1:=hB.trans (hb1.mono hB.size));clear hb1 hB)
    go_roundw
    case rel=>
     refine ⟨j+1,by go_num,by omega,fun y hy=>?_,hB1⟩
     rw [take_snocN HX.out] at hy
     rcases List.mem_append.1 hy with hy | hy
     ·exact HOK.out y hy
     ·cases List.mem_singleton.1 hy;exact HV1.out
    case measure=>simp [intOf];omega
   | false=>
    rw [hv] at W
    have HV1:=Hh hv
    clear hv
    go_wp2_with (go_at_call 88;(with_reducible refine (W.out).mono ?_);rintro e w1 ⟨rfl,hb1⟩;(have hB1:=hB.trans (hb1.mono hB.size));clear hb1 hB)
    go_ret
    have hall:its.all (validN d)=false:=by
     cases hq:its.all (validN d) with
     | false=>rfl
     | true=>
      have:=List.all_eq_true.1 hq x (List.mem_of_getElem? HX.out)
      rw [HV1.out] at this
      cases this
    exact ⟨(j:Int),rfl,by rw [hall,decide_eq_true (by omega)];rfl,hB1⟩
  ·have hlt':¬ (j:Int)<(its.length:Int):=by omega
   have hall:its.all (validN d)=true:=by
    rw [List.take_of_length_le (by omega)] at hok
    exact List.all_eq_true.2 hok
   have HA:=Hh hall
   clear hok hall
   go_wp2
   go_ret
   exact ⟨-1,rfl,by rw [HA.out];rfl,hB⟩
theorem contains_any {d:Nat} (HV:ValidAt d) (hd:d<100) (p:Nat) {D:Nat} {S:Nat→Prop} (v:Value) (its:List ND) (w:World) (h:NodesIn (NodeIn D S w) S w v its) (hS:∀b,S b→b<w.heap.size) (hl:∀y,y ∈ its→lowV D y) (hT:Utab w) (hp:p<w.heap.size) (hc:w.cell? ⟨p,0,none⟩=some (.int .i64 ((d:Int)+1))) :
 Calls Tryz.prog 89 #[v,.func (.func 88) #[] #[.pointer (some ⟨p,0,none⟩)]] w fun e w'=>e=.returned (.bool (!its.all (validN d)))∧Below w.heap.size w w':=by
 have I:=Hh (index_any HV hd p v its w h hS hl hT hp hc)
 generalize (!its.all (validN d))=bad at I ⊢
 clear h hS hl hT hp hc HV
 go_enter Tryz.func89,Tryz.ntmps89
 go_wp2_with (go_at_call 114;(with_reducible refine (I.out).mono ?_);rintro e w2 ⟨z,rfl,hz,hb2⟩)
 go_ret
 exact ⟨by first | rfl | (rw [←hz]),hb2⟩
theorem flat_eq (x:ND):flatOk x=(onlyB x.kind x.bool x.num x.text x.names.length x.items.length && (textOk x.text && (decide (x.items.length≤256) && (!decide (x.kind=5) || namesB x.names x.items.length)))):=by
 unfold flatOk onlyB namesB
 by_cases hk:x.kind=5
 ·simp [hk,Bool.and_assoc]
 ·by_cases hn:x.names.length=0
  ·have:x.names=[]:=List.length_eq_zero_iff.1 hn
   simp [hk,this,Bool.and_assoc]
  ·have:x.names ≠ []:=fun h=>hn (by rw [h];rfl)
   simp [hk,this]
theorem within_step {d:Nat} (HV:ValidAt d) (hd:d<100):ValidAt (d+1):=by
 intro D S cs x w h hS hl hT
 obtain ⟨a1,l1,c1,a2,l2,c2,rfl⟩:=h.slices
 cases D with
 | zero=>exact h.elim
 | succ D=>
 obtain ⟨vn,vi,e,ht,hns,his⟩:=h
 simp only [List.cons.injEq,and_true,true_and] at e
 obtain ⟨rfl,rfl⟩:=e
 obtain ⟨ai,ci,ei,hi1,hi2,hi3⟩:=id his
 have hl2:l2=x.items.length:=by cases ei;rfl
 clear hi3 ei
 obtain ⟨w1,hw1⟩:∃W,W=(w.alloc (.cells #[.int .i64 x.kind,.bool x.bool,.int .i64 x.num,.string x.text,.slice a1 l1 c1,.slice a2 l2 c2] 30)).alloc (.cells #[.int .i64 ((d:Int)+1)] 3):=⟨_,rfl⟩
 have hz:(w.alloc (.cells #[.int .i64 x.kind,.bool x.bool,.int .i64 x.num,.string x.text,.slice a1 l1 c1,.slice a2 l2 c2] 30)).heap.size=w.heap.size+1:=by simp
 have b1:Below w.heap.size w w1:=by rw [hw1];exact ((Br _ _).alloc (Lr _) _).alloc (by simp) _
 have hk1:w1.heap[w.heap.size]?=some (.cells #[.int .i64 x.kind,.bool x.bool,.int .i64 x.num,.string x.text,.slice a1 l1 c1,.slice a2 l2 c2] 30 (0,0)):=by rw [hw1];exact (Below.heap_alloc _ _ _ (by omega)).trans (Hn _ _)
 have hp1:w1.heap[w.heap.size+1]?=some (.cells #[.int .i64 ((d:Int)+1)] 3 (0,0)):=by rw [hw1,←hz];exact Hn _ _
 have cp:w1.cell? ⟨w.heap.size+1,0,none⟩=some (.int .i64 ((d:Int)+1)):=by simp [World.cell?,hp1]
 have hps:w.heap.size+1<w1.heap.size:=lt_of_block hp1
 have ck:=six_of hk1
 -- the contracts at whatever world stands behind
 have FO:=Hh (fun wx=>only_any x.kind x.bool x.num x.text a1 a2 l1 c1 l2 c2 wx)
 have FT:=Hh (fun (wx:World) (hb:Below w1.heap.size w1 wx)=>vtext_any x.text wx ht ((hT.below b1).below hb))
 have FN:=Hh (fun (wx:World) (hb:Below w1.heap.size w1 wx)=>vnames_any x.kind x.bool x.num x.text a1 a2 l1 c1 l2 c2 x.names wx (hns.same (w':=wx) fun b hb'=>(hb.block b (Ll (hS b hb') b1.size)).trans (b1.block b (hS b hb'))) (fun b hb'=>Ll (Ll (hS b hb') b1.size) hb.size) (by rw [hl2];exact hl.1) ((hT.below b1).below hb))
 have FC:=Hh (fun (wx:World) (hb:Below w1.heap.size w1 wx)=>contains_any HV hd (w.heap.size+1) (.slice a2 l2 c2) x.items wx (his.same (w':=wx) (R':=NodeIn D S wx) (fun b hb'=>(hb.block b (Ll (hS b hb') b1.size)).trans (b1.block b (hS b hb'))) fun cs y q=>q.same fun b hb'=>(hb.block b (Ll (hS b hb') b1.size)).trans (b1.block b (hS b hb'))) (fun b hb'=>Ll (Ll (hS b hb') b1.size) hb.size) hl.2 ((hT.below b1).below hb) (Ll hps hb.size) ((hb.cell (p:=⟨w.heap.size+1,0,none⟩) hps).trans cp))
 have FK:=Hh (fun (wx:World) (hb:Below w1.heap.size w1 wx)=>six_of ((hb.block _ (by omega:w.heap.size<w1.heap.size)).trans hk1))
 have hval:validN (d+1) x=(onlyB x.kind x.bool x.num x.text x.names.length x.items.length && (textOk x.text && (decide (x.items.length≤256) && (!decide (x.kind=5) || namesB x.names x.items.length))) && x.items.all (validN d)):=by rw [validN_succ,flat_eq]
 have hl1:l1=x.names.length:=by obtain ⟨_,_,e,_⟩:=hns;cases e;rfl
 have B1:=Hh b1
 have hcd:(((d+1:Nat):Int))=(d:Int)+1:=by omega
 have hmf:∀ (fn:Fn) (first cap:Array Value) (w:World),(Instr.makeFunc fn first cap).run Tryz.prog w=.ok (.func fn first cap) w:=fun _ _ _ _=>rfl
 rw [hcd,hval]
 rw [←hl1,←hl2]
 have hl2b:l2≤1000000:=by have:=hl.1;omega
 clear hval ht hns his hS hl hT HV hz hk1 hp1 hcd hl1 hl2 hi1
 generalize hA:onlyB x.kind x.bool x.num x.text l1 l2=bA at FO ⊢
 generalize hT':textOk x.text=bT at FT ⊢
 generalize hN:namesB x.names l2=bN at FN ⊢
 generalize hC:x.items.all (validN d)=bC at FC ⊢
 clear hA hT' hN hC
 have hdn:¬ (d:Int)+1<1:=by omega
 cases bA with
 | false=>
  go_enter Tryz.func51,Tryz.ntmps51
  go_upto_region 1 with fail
  rw [←hw1]
  clear hw1
  go_wp2_with ((go_at_call 85;(with_reducible refine (FO.out _).mono ?_);rintro e w2 ⟨rfl,hb2⟩;(have fk2:=FK.out w2 hb2);clear ck))
  go_ret
  exact ⟨rfl,B1.out.trans (hb2.mono B1.out.size)⟩
 | true=>
 cases bT with
 | false=>
  go_enter Tryz.func51,Tryz.ntmps51
  go_upto_region 1 with fail
  rw [←hw1]
  clear hw1
  go_wp2_with (first
   | (go_at_call 85;(with_reducible refine (FO.out _).mono ?_);rintro e w2 ⟨rfl,hb2⟩;(have fk2:=FK.out w2 hb2);clear ck)
   | (go_at_call 86;(with_reducible refine (FT.out _ hb2).mono ?_);rintro e w3 ⟨rfl,hb3'⟩;(have hb3:=hb2.trans (hb3'.mono hb2.size));(have fk3:=FK.out w3 hb3);clear fk2))
  go_ret
  exact ⟨rfl,B1.out.trans (hb3.mono B1.out.size)⟩
 | true=>
 by_cases h256:l2≤256
 ·have h256':¬ (256:Int)<(l2:Int):=by omega
  rw [decide_eq_true h256]
  by_cases hk5:x.kind=5
  ·rw [decide_eq_true hk5]
   have hkb:(x.kind == 5)=true:=by simp [hk5]
   have HK5:=Hh hk5
   clear hk5 h256
   cases bN with
   | false=>
    go_enter Tryz.func51,Tryz.ntmps51
    go_upto_region 1 with fail
    rw [←hw1]
    clear hw1
    go_wp2_with (first
   | (go_at_call 85;(with_reducible refine (FO.out _).mono ?_);rintro e w2 ⟨rfl,hb2⟩;(have fk2:=FK.out w2 hb2);clear ck)
   | (go_at_call 86;(with_reducible refine (FT.out _ hb2).mono ?_);rintro e w3 ⟨rfl,hb3'⟩;(have hb3:=hb2.trans (hb3'.mono hb2.size));(have fk3:=FK.out w3 hb3);clear fk2)
   | (go_at_call 87;(with_reducible refine (FN.out _ hb3).mono ?_);rintro e w4 ⟨rfl,hb4'⟩;(have hb4:=hb3.trans (hb4'.mono hb3.size));(have fk4:=FK.out w4 hb4);clear fk3))
    go_ret
    exact ⟨rfl,B1.out.trans (hb4.mono B1.out.size)⟩
   | true=>
    go_enter Tryz.func51,Tryz.ntmps51
    go_upto_region 1 with fail
    rw [←hw1]
    clear hw1
    go_wp2_with (first
   | (go_at_call 85;(with_reducible refine (FO.out _).mono ?_);rintro e w2 ⟨rfl,hb2⟩;(have fk2:=FK.out w2 hb2);clear ck)
   | (go_at_call 86;(with_reducible refine (FT.out _ hb2).mono ?_);rintro e w3 ⟨rfl,hb3'⟩;(have hb3:=hb2.trans (hb3'.mono hb2.size));(have fk3:=FK.out w3 hb3);clear fk2)
   | (go_at_call 87;(with_reducible refine (FN.out _ hb3).mono ?_);rintro e w4 ⟨rfl,hb4'⟩;(have hb4:=hb3.trans (hb4'.mono hb3.size));(have fk4:=FK.out w4 hb4);clear fk3)
   | (go_at_call 89;(with_reducible refine (FC.out _ hb4).mono ?_);rintro e w5 ⟨rfl,hb5'⟩;(have hb5:=hb4.trans (hb5'.mono hb4.size))))
    go_ret
    exact ⟨by simp,B1.out.trans (hb5.mono B1.out.size)⟩
  ·rw [decide_eq_false hk5]
   have hkb:(x.kind == 5)=false:=by simp [hk5]
   have HK5:=Hh hk5
   clear hk5 h256
   go_enter Tryz.func51,Tryz.ntmps51
   go_upto_region 1 with fail
   rw [←hw1]
   clear hw1
   go_wp2_with (first
   | (go_at_call 85;(with_reducible refine (FO.out _).mono ?_);rintro e w2 ⟨rfl,hb2⟩;(have fk2:=FK.out w2 hb2);clear ck)
   | (go_at_call 86;(with_reducible refine (FT.out _ hb2).mono ?_);rintro e w3 ⟨rfl,hb3'⟩;(have hb3:=hb2.trans (hb3'.mono hb2.size));(have fk3:=FK.out w3 hb3);clear fk2)
   | (go_at_call 89;(with_reducible refine (FC.out _ hb3).mono ?_);rintro e w5 ⟨rfl,hb5'⟩;(have hb5:=hb3.trans (hb5'.mono hb3.size))))
   go_ret
   exact ⟨by simp,B1.out.trans (hb5.mono B1.out.size)⟩
 ·have h256':(256:Int)<(l2:Int):=by omega
  rw [decide_eq_false h256]
  clear h256
  go_enter Tryz.func51,Tryz.ntmps51
  go_upto_region 1 with fail
  rw [←hw1]
  clear hw1
  go_wp2_with (first
   | (go_at_call 85;(with_reducible refine (FO.out _).mono ?_);rintro e w2 ⟨rfl,hb2⟩;(have fk2:=FK.out w2 hb2);clear ck)
   | (go_at_call 86;(with_reducible refine (FT.out _ hb2).mono ?_);rintro e w3 ⟨rfl,hb3'⟩;(have hb3:=hb2.trans (hb3'.mono hb2.size));(have fk3:=FK.out w3 hb3);clear fk2))
  go_ret
  exact ⟨rfl,B1.out.trans (hb3.mono B1.out.size)⟩
theorem within_zero:ValidAt 0:=by
 intro D S cs x w h hS hl hT
 obtain ⟨a1,l1,c1,a2,l2,c2,rfl⟩:=h.slices
 clear h hS hl hT
 go_enter Tryz.func51,Tryz.ntmps51
 go_wp2
 go_ret
 exact ⟨rfl,((Br _ _).alloc (Lr _) _).alloc (by simp) _⟩
theorem within_any:∀d,d<100→ValidAt d
 | 0,_=>within_zero
 | d+1,h=>within_step (within_any d (by omega)) (by omega)
theorem isvalidV_any {D:Nat} {S:Nat→Prop} (cs:List Value) (x:ND) (w:World) (h:NodeIn D S w cs x) (hS:∀b,S b→b<w.heap.size) (hl:lowV D x) (hT:Utab w):Calls Tryz.prog 31 #[.agg cs.toArray] w fun e w'=>e=.returned (.bool (validN 8 x))∧Below w.heap.size w w':=by
 obtain ⟨a1,l1,c1,a2,l2,c2,rfl⟩:=h.slices
 have b1:=(Br w.heap.size w).alloc (o:=.cells #[.int .i64 x.kind,.bool x.bool,.int .i64 x.num,.string x.text,.slice a1 l1 c1,.slice a2 l2 c2] 30) (Lr _)
 have V:=Hh (within_any 8 (by decide) D S _ x (w.alloc (.cells #[.int .i64 x.kind,.bool x.bool,.int .i64 x.num,.string x.text,.slice a1 l1 c1,.slice a2 l2 c2] 30)) (h.same fun b hb=>b1.block b (hS b hb)) (fun b hb=>Ll (hS b hb) b1.size) hl (hT.below b1))
 rw [show ((8:Nat):Int)=8 from rfl] at V
 have HB:=Hh b1
 generalize validN 8 x=vb at V ⊢
 clear h hS hl hT b1
 go_enter Tryz.func31,Tryz.ntmps31
 go_wp2_with (go_at_call 51;(with_reducible refine (V.out).mono ?_);rintro e w2 ⟨rfl,hb2⟩)
 go_ret
 exact ⟨rfl,HB.out.trans (hb2.mono HB.out.size)⟩
end Go.Proofs.YtdppdonaojdceaaGreatDoor