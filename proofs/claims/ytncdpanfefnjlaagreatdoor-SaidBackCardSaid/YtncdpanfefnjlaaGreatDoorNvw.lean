import Derived.Test.YtncdpanfefnjlaaGreatDoorProg
import Derived.Test.YtncdpanfefnjlaaGreatDoorRows
import Derived.Test.YtncdpanfefnjlaaGreatDoorMfc
set_option linter.unusedVariables false
set_option linter.unusedSimpArgs false
set_option maxHeartbeats 3200000
set_option maxRecDepth 100000
namespace Go.Proofs.YtncdpanfefnjlaaGreatDoor
open Go.Proofs.Tryz
open Go.Shelf Go.RowKit Go.Lib
def aJd:Go.Shelf.Ren:=⟨fun | 196=>111 | 259=>125 | n=>n,fun | 0=>0 | 3=>3 | 4=>4 | 5=>5 | 9=>9 | 12=>12 | 46=>85 | 53=>130 | 119=>160 | 138=>162 | 139=>163 | n=>n,fun | 3=>3 | 4=>4 | n=>n⟩
theorem SY:Go.Proofs.Lays.n196 prog aJd:={
 mixed:=by kernel_rfl
 f196:=Tryz.func111.trans (Ad some (by kernel_rfl))
 f259:=Tryz.func125.trans (Ad some (by kernel_rfl))
 t0:=underlying0
 a0:=isAgg0
 z0:=sizeOf0
 v0:=zeroValue0
 t3:=underlying3
 a3:=isAgg3
 z3:=sizeOf3
 v3:=zeroValue3
 t4:=underlying4
 a4:=isAgg4
 z4:=sizeOf4
 v4:=zeroValue4
 t5:=underlying5
 a5:=isAgg5
 z5:=sizeOf5
 v5:=zeroValue5
 t9:=underlying9
 a9:=isAgg9
 z9:=sizeOf9
 v9:=zeroValue9
 t12:=underlying12
 a12:=isAgg12
 z12:=sizeOf12
 v12:=zeroValue12
 t46:=underlying85
 a46:=isAgg85
 z46:=sizeOf85
 v46:=zeroValue85
 t53:=underlying130
 a53:=isAgg130
 z53:=sizeOf130
 v53:=zeroValue130
 t119:=underlying160
 a119:=isAgg160
 z119:=sizeOf160
 t138:=underlying162
 a138:=isAgg162
 z138:=sizeOf162
 v138:=zeroValue162
 t139:=underlying163
 a139:=isAgg163
 z139:=sizeOf163
 v139:=zeroValue163
 g3:=by kernel_rfl
 g4:=by kernel_rfl
}
theorem aHu:U8Extra prog aJd:=⟨by kernel_rfl,by kernel_rfl,by kernel_rfl,by kernel_rfl,by kernel_rfl,by kernel_rfl,by kernel_rfl⟩
def kI (w:World):Prop:=Lib.Utf8Tabs 3 4 w
theorem kI.of {w : World} (h3 : VarReads prog w "unicode/utf8.first" firstData) (h4 : VarReads prog w "unicode/utf8.acceptRanges" acceptData) : kI w := utf8Tabs_of_readsT (U8Types.of196 SY) aHu h3 h4
theorem BX (s:Bt) (w:World) (hs:s.size≤maxLen) (hT:kI w):Calls prog 111 #[.string s] w fun e w'=>e=.returned (.bool (Lib.validD s.data.toList))∧Below w.heap.size w w':=
 Any.utf8_ValidString SY s w (Ae hs (by decide)) hT
end Go.Proofs.YtncdpanfefnjlaaGreatDoor
namespace Go.Proofs.YtncdpanfefnjlaaGreatDoor
open Go.Proofs.Tryz
open Go Go.Maps Go.ChangeShapes Go.WideShapes Go.ChangeAt Go.RowKit
def cE (k:Int) (b:Bool) (n:Int) (t:Bt) (l1 l2:Nat):Bool:=
 decide (0≤k) && decide (k≤5) && (!b || decide (k=1)) && (decide (n=0) || decide (k=2)) && (decide (t=⟨#[]⟩) || decide (k=3)) && (decide (l2=0) || decide (4≤k)) && (decide (l1=0) || decide (k=5))
theorem aDj (l:Nat):((l:Int) == 0)=decide (l=0):=by
 by_cases h:l=0
 ·simp [h]
 ·simp [h]
theorem JF (t:Bt):t=⟨#[]⟩↔t.toList=[]:=by
 constructor
 ·rintro rfl;rw [ByteArray.toList_eq]
 ·intro h
  rw [ByteArray.toList_eq] at h;obtain ⟨⟨l⟩⟩:=t;simp at h;rw [h]
theorem aAm (k:Int) (b:Bool) (n:Int) (t:Bt) (a1 a2:Option Addr) (l1 c1 l2 c2:Nat) (w:World):Calls prog 77 #[.agg #[Iz k,.bool b,Iz n,.string t,.slice a1 l1 c1,.slice a2 l2 c2]] w fun e w'=>e=.returned (.bool (cE k b n t l1 l2))∧Below w.heap.size w w':=by
 have htn:=JF t;have HT:=Hh htn;clear htn;rcases Int.lt_or_le k 0 with hk | hk
 ·go_enter func77,ntmps77
  go_wp2
  go_ret
  exact ⟨by have:decide (0≤k)=false:=Ap (by omega);simp [cE,this],(Br _ _).alloc (Lr _) _⟩
 rcases Int.lt_or_le 5 k with hk5 | hk5
 ·have hk0:¬k<0:=by omega
  go_enter func77,ntmps77
  go_wp2
  go_ret
  exact ⟨by have:decide (k≤5)=false:=Ap (by omega);simp [cE,this],(Br _ _).alloc (Lr _) _⟩
 obtain rfl | rfl | rfl | rfl | rfl | rfl:k=0∨k=1∨k=2∨k=3∨k=4∨k=5:=by omega
 all_goals
  go_enter func77,ntmps77
  go_wp2
  all_goals
   go_ret
   exact ⟨by simp [cE,HT.o,aDj, *],(Br _ _).alloc (Lr _) _⟩
theorem kI.below {w w':World} (h:kI w) (hb:Below w.heap.size w w'):kI w':=Utf8Tabs_below h hb
theorem BU (s:Bt) (w:World) (hs:s.size≤maxLen - 2) (hT:kI w):Calls prog 78 #[.string s] w fun e w'=>e=.returned (.bool (aV s))∧Below w.heap.size w w':=by
 unfold maxLen at hs;have V:=Hh (BX s w (by unfold maxLen;omega) hT)
 by_cases h:s.size≤65536
 ·have h1:(s.size:Int)≤65536:=by omega
  have e:aV s=Lib.validD s.data.toList:=by unfold aV;rw [An h];rfl
  rw [e];clear e hT;generalize Lib.validD s.data.toList=b at V ⊢
  go_enter func78,ntmps78
  go_wp2_with (go_at_call 111;(with_reducible refine (V.o).mono ?_);rintro e w1 ⟨rfl,hb⟩)
  go_ret
  exact ⟨rfl,hb⟩
 ·have h1:¬ (s.size:Int)≤65536:=by omega
  have e:aV s=false:=by unfold aV;rw [Ap h];rfl
  rw [e];clear e hT
  go_enter func78,ntmps78
  go_wp2
  go_ret
  exact ⟨rfl,Br _ _⟩
def iY (ns:List Bt) (l2:Nat):Bool:=decide (ns.length=l2) && (ns.all aV && decide ns.Nodup)
theorem bE.at {S:Nat→Prop} {w:World} {ao:Option Addr} {l cap:Nat} {ns:List Bt} (h:bE S w (.slice ao l cap) ns) {j:Nat} (hj:j<ns.length):l=ns.length∧l≤cap∧cap≤maxLen∧∃b off,ao=some ⟨b,off,none⟩∧S b∧w.cell? ⟨b,off+j,none⟩=some (.string ns[j])∧ns[j].size≤maxLen - 2:=by
 obtain ⟨ao',cap',e,h1,h2,h3⟩:=h;cases e;obtain ⟨b,off,rfl,hS,hc,hr⟩:=h3 j _ (Ac hj);exact ⟨rfl,h1,h2,b,off,rfl,hS,hc,hr⟩
theorem kQ:Keyed prog 9:=string_keyed underlying9
theorem IN (w:World):(zeroValue 4).run prog w=.ok (.bool false) w:=by kernel_rfl
theorem NS {S:Nat→Prop} (k:Int) (b:Bool) (n:Int) (t:Bt) (a1 a2:Option Addr) (l1 c1 l2 c2:Nat) (ns:List Bt) (w:World) (h:bE S w (.slice a1 l1 c1) ns) (hS:∀b,S b→b<w.heap.size) (hl2:l2≤1000000) (hT:kI w) :
 Calls prog 79 #[.agg #[Iz k,.bool b,Iz n,.string t,.slice a1 l1 c1,.slice a2 l2 c2]] w fun e w'=>e=.returned (.bool (iY ns l2))∧Below w.heap.size w w':=by
 obtain ⟨ao,cap,e,hc1,hc2,hc3⟩:=id h;cases e;unfold maxLen at hc2;have H:=Hh h;have HS:=Hh hS;have HT:=Hh hT;have hmm:=@run_makeMap prog;clear h hS hT hc3
 by_cases hlen:ns.length=l2
 ·have hlen':((ns.length:Int) != (l2:Int))=false:=by simp [hlen]
  have hl:ns.length≤1000000:=by omega
  have HLEN:=Hh hlen;have B2:Below w.heap.size w ((w.alloc (.cells #[Iz k,.bool b,Iz n,.string t,.slice a1 ns.length c1,.slice a2 l2 c2] 28)).alloc (.map #[] 0)):=((Br _ _).alloc (Lr _) _).alloc (by simp) _
  have hset:dC prog 9 4 ((w.alloc (.cells #[Iz k,.bool b,Iz n,.string t,.slice a1 ns.length c1,.slice a2 l2 c2] 28)).alloc (.map #[] 0)) (w.heap.size+1) []:=by
   have:=dC.made (w.alloc (.cells #[Iz k,.bool b,Iz n,.string t,.slice a1 ns.length c1,.slice a2 l2 c2] 28)) prog 9 4;rw [show (w.alloc (.cells #[Iz k,.bool b,Iz n,.string t,.slice a1 ns.length c1,.slice a2 l2 c2] 28)).heap.size=w.heap.size+1 by simp] at this
   exact this
  have HSET:=Hh hset;clear hset hlen
  go_enter func79,ntmps79
  go_wp2
  go_loopw [5,17] (fun s5 i wr=>∃j:Nat,i=Iz j∧j≤ns.length∧dC prog 9 4 wr (w.heap.size+1) (ns.take j).reverse∧(∀s,s ∈ ns.take j→aV s=true)∧(ns.take j).Nodup∧Below w.heap.size w wr) (fun _ i _=>ns.length - (intOf i).toNat)
  case atStart=>exact ⟨0,rfl,Ax _,HSET.o,(fun s h=>by simp at h),by simp,B2⟩
  case round=>
   obtain ⟨j,rfl,hj,hset,hok,hnd,hB⟩:=hrel;clear HSET B2
   by_cases hlt:j<ns.length
   ·have hlt':(j:Int)<(ns.length:Int):=by omega
    have hj0:(0:Int)≤(j:Int):=by omega
    obtain ⟨-,-,-,bb,off,rfl,hSb,hc,hs⟩:=H.o.at hlt;have hcw:=(hB.cell (p:=⟨bb,off+j,none⟩) (HS.o bb hSb)).trans hc;obtain ⟨s,hse⟩:∃s,s=ns[j]:=⟨_,rfl⟩;rw [←hse] at hc hs hcw;have hsj:ns[j]?=some s:=by rw [Ac hlt,hse]
    have htk:ns.take (j+1)=ns.take j++[s]:=by rw [Bf,hsj];rfl
    have V:=Hh (BU s wr hs (HT.o.below hB));have hkey:=Cj (P:=prog) (k:=9) (s:=s) underlying9 (by unfold maxLen at hs ⊢;omega)
    have HTK:=Hh htk;have HSJ:=Hh hsj;have HOK:=Hh hok;have HND:=Hh hnd;have HST:=Hh hset;clear hc hs hse hsj htk hok hnd hset
    by_cases hto:aV s=true
    ·rw [hto] at V
     by_cases hin:s ∈ ns.take j
     ·have hnn:iY ns l2=false:=by
       have:¬ns.Nodup:=fun hn=>by
        rw [List.nodup_iff_pairwise_ne,List.pairwise_iff_getElem] at hn;obtain ⟨q,hq,e⟩:=List.getElem_of_mem hin;rw [Ba] at hq;rw [List.getElem_take] at e;refine hn q j (by omega) hlt (by omega) ?_
        rw [e];have:=HSJ.o;rw [Ac hlt] at this;exact (Ab this).symm
       unfold iY;rw [Ap this,Bool.and_false,Bool.and_false]
      have HNN:=Hh hnn;have L:=fun wx (h:dC prog 9 4 wx (w.heap.size+1) (ns.take j).reverse)=>h.look (t:=127) kQ underlying127 underlying4 (IN wx) s hkey
      rw [(pJ s _).2 (List.mem_reverse.2 hin)] at L;have LL:=Hh L;clear L hnn hin hkey
      go_wp2_with (go_at_call 78;(with_reducible refine (V.o).mono ?_);rintro e w1 ⟨rfl,hb1⟩;(have hlook:=LL.o w1 (HST.o.below hb1));(have hB1:=hB.trans (hb1.mono hB.size));clear hb1 hB)
      go_ret
      exact ⟨by rw [HNN.o];rfl,hB1⟩
     ·have L:=fun wx (h:dC prog 9 4 wx (w.heap.size+1) (ns.take j).reverse)=>h.look (t:=127) kQ underlying127 underlying4 (IN wx) s hkey
      have hinB:inB s (ns.take j).reverse=false:=by
       cases hq:inB s (ns.take j).reverse with
       | false=>rfl
       | true=>exact absurd (List.mem_reverse.1 ((pJ s _).1 hq)) hin
      rw [hinB] at L;have LL:=Hh L;have HIN:=Hh hin;have HKEY:=Hh hkey;have hlr:(ns.take j).reverse.length<1000000:=by rw [List.length_reverse,Ba];omega
      have HTO:=Hh hto;clear L hin hkey hinB hto
      go_wp2_with (first
       | (go_at_call 78;(with_reducible refine (V.o).mono ?_);rintro e w1 ⟨rfl,hb1⟩;(have hlook:=LL.o w1 (HST.o.below hb1));(have hB1:=hB.trans (hb1.mono hB.size));(have hset1:=HST.o.below hb1);clear hb1 hB)
       | (at_mapUpdate;refine Dk _ rfl _ _ _ 127 rfl 9 4 kQ underlying127 _ (w.heap.size+1) (ns.take j).reverse.length _ rfl hset1 (by unfold maxLen;omega) _ _ _ rfl rfl HKEY.o _ [] (plainElem_bool underlying4 true) ?_;intro w2 hown2 hgrow2))
      have hset2:dC prog 9 4 w2 (w.heap.size+1) (s::(ns.take j).reverse):=dC.put hown2;have hB2:=fU hB1 hgrow2 hB1.size (by omega)
      clear hown2 hgrow2 hB1 hset1 hlook
      go_wp2
      go_roundw
      case rel=>
       refine ⟨j+1,by go_num,by omega,?_,?_,?_,hB2⟩
       ·rw [HTK.o,List.reverse_append];exact hset2
       ·intro y hy
        rw [HTK.o] at hy;rcases Bb.1 hy with hy | hy
        ·exact HOK.o y hy
        ·cases At.1 hy;exact HTO.o
       ·rw [HTK.o,List.nodup_append]
        refine ⟨HND.o,by simp,fun a ha b hb=>?_⟩
        cases At.1 hb;intro e;subst e;exact HIN.o ha
      case measure=>simp [intOf];omega
    ·have hnn:iY ns l2=false:=by
      have:ns.all aV=false:=by
       cases hq:ns.all aV with
       | false=>rfl
       | true=>exact absurd (Aw.1 hq s (Aq HSJ.o)) hto
      unfold iY;rw [this,Bool.false_and,Bool.and_false]
     have HNN:=Hh hnn;have hto':aV s=false:=by simpa using hto
     rw [hto'] at V;clear hnn hto hto' hkey
     go_wp2_with (go_at_call 78;(with_reducible refine (V.o).mono ?_);rintro e w1 ⟨rfl,hb1⟩;(have hB1:=hB.trans (hb1.mono hB.size));clear hb1 hB)
     go_ret
     exact ⟨by rw [HNN.o];rfl,hB1⟩
   ·have hlt':¬ (j:Int)<(ns.length:Int):=by omega
    have hjl:ns.take j=ns:=Ao (by omega)
    have hnn:iY ns l2=true:=by
     rw [hjl] at hok hnd;unfold iY;rw [An HLEN.o,Aw.2 hok,An hnd]
     rfl
    have HNN:=Hh hnn;clear hnn hjl hset hok hnd
    go_wp2
    go_ret
    exact ⟨by rw [HNN.o];rfl,hB⟩
 ·have hlen':((ns.length:Int) != (l2:Int))=true:=by simp;omega
  have e:iY ns l2=false:=by unfold iY;rw [Ap hlen];rfl
  rw [e];clear e hlen
  go_enter func79,ntmps79
  go_wp2
  go_ret
  exact ⟨rfl,(Br _ _).alloc (Lr _) _⟩
end Go.Proofs.YtncdpanfefnjlaaGreatDoor
namespace Go.Proofs.YtncdpanfefnjlaaGreatDoor
open Go.Proofs.Tryz
open Go Go.ChangeShapes Go.WideShapes Go.ChangeAt Go.RowKit
def jN:Nat→ND→Prop
 | 0,_=>True
 | d+1,x=>x.items.length≤1000000∧∀y,y ∈ x.items→jN d y
theorem fT:∀ {d:Nat} {x:ND},jG d x→jN d x
 | 0,_,_=>trivial
 | d+1,x,h=>⟨h.2.1,fun y hy=>fT (h.2.2 y hy)⟩
def nJ (d:Nat):Prop:=∀ (D:Nat) (S:Nat→Prop) (cs:Vl) (x:ND) (w:World),aC D S w cs x→(∀b,S b→b<w.heap.size)→jN D x→kI w→Calls prog 44 #[.agg cs.toArray,Iz (d:Int)] w fun e w'=>e=.returned (.bool (aB d x))∧Below w.heap.size w w'
theorem UD {d:Nat} (HV:nJ d) (hd:d<100) (p:Nat) {D:Nat} {S:Nat→Prop} (cs:Vl) (y:ND) (w:World) (h:aC D S w cs y) (hS:∀b,S b→b<w.heap.size) (hl:jN D y) (hT:kI w) (hp:p<w.heap.size) (hc:w.cell? ⟨p,0,none⟩=some (Iz ((d:Int)+1))) :
 Calls prog 80 #[.agg cs.toArray,.pointer (some ⟨p,0,none⟩)] w fun e w'=>e=.returned (.bool (!aB d y))∧Below w.heap.size w w':=by
 obtain ⟨a1,l1,c1,a2,l2,c2,rfl⟩:=h.slices;have b1:=(Br w.heap.size w).alloc (o:=.cells (Na y a1 l1 c1 a2 l2 c2) 28) (Lr _);have V:=Hh (HV D S _ y (w.alloc (.cells (Na y a1 l1 c1 a2 l2 c2) 28)) (h.same fun b hb=>b1.block b (hS b hb)) (fun b hb=>Ll (hS b hb) b1.size) hl (hT.below b1))
 have hc1:=(b1.cell (p:=⟨p,0,none⟩) hp).trans hc;have hpn:¬p=w.heap.size:=by omega
 have HB:=Hh b1;have hd1:((d:Int)+1 - 1)=(d:Int):=by omega
 have hdw:IntKind.i64.wrap (d:Int)=(d:Int):=Cd _ (by omega)
 generalize aB d y=vb at V ⊢;clear h hS hl hT b1 HV
 go_enter func80,ntmps80
 go_wp2_with (go_at_call 44;(with_reducible refine (V.o).mono ?_);rintro e w2 ⟨rfl,hb2⟩)
 go_ret
 exact ⟨rfl,HB.o.trans (hb2.mono HB.o.size)⟩
def TT (bad:Bool) (w:World) (e:Ending) (w':World):Prop:=∃z:Int,e=.returned (Iz z)∧decide (0≤z)=bad∧Below w.heap.size w w'
theorem XG {d:Nat} (HV:nJ d) (hd:d<100) (p:Nat) {D:Nat} {S:Nat→Prop} (v:Value) (its:List ND) (w:World) (h:cB (aC D S w) S w v its) (hS:∀b,S b→b<w.heap.size) (hl:∀y,y ∈ its→jN D y) (hT:kI w) (hp:p<w.heap.size) (hc:w.cell? ⟨p,0,none⟩=some (Iz ((d:Int)+1))) :
 Calls prog 112 #[v,.func (.func 80) #[] #[.pointer (some ⟨p,0,none⟩)]] w (TT (!its.all (aB d)) w):=by
 obtain ⟨ao,cap,rfl,hc1,hc2,hc3⟩:=h;have H:Hid (cB (aC D S w) S w (.slice ao its.length cap) its):=Hh ⟨ao,cap,rfl,hc1,hc2,hc3⟩;unfold maxLen at hc2;have HL:=Hh hl;have HS:=Hh hS;have HT:=Hh hT;have HC:=Hh hc;have HP:=Hh hp;have HVV:=Hh HV;clear hl hS hT hc hp hc3 HV
 go_enter func112,ntmps112
 go_wp2
 go_loopw [5,8] (fun i5 i wr=>∃j:Nat,i=Iz j∧j≤its.length∧(∀y,y ∈ its.take j→aB d y=true)∧Below w.heap.size w wr) (fun _ i _=>its.length - (intOf i).toNat)
 case atStart=>exact ⟨0,rfl,Ax _,(fun y hy=>by simp at hy),Br _ _⟩
 case round=>
  obtain ⟨j,rfl,hj,hok,hB⟩:=hrel
  by_cases hlt:j<its.length
  ·have hlt':(j:Int)<(its.length:Int):=by omega
   have hj0:(0:Int)≤(j:Int):=by omega
   obtain ⟨-,-,-,b,off,x,a1,l1,c1,a2,l2,c2,rfl,hSb,hx,hnd,k0,k1,k2,k3,k4,k5⟩:=H.o.at hlt;have hbw:=HS.o b hSb;have q0:=(hB.cell (p:=⟨b,off+j * 6,none⟩) hbw).trans k0;have q1:=(hB.cell (p:=⟨b,off+j * 6+1,none⟩) hbw).trans k1;have q2:=(hB.cell (p:=⟨b,off+j * 6+2,none⟩) hbw).trans k2;have q3:=(hB.cell (p:=⟨b,off+j * 6+3,none⟩) hbw).trans k3;have q4:=(hB.cell (p:=⟨b,off+j * 6+4,none⟩) hbw).trans k4;have q5:=(hB.cell (p:=⟨b,off+j * 6+5,none⟩) hbw).trans k5;clear k0 k1 k2 k3 k4 k5;have W:=Hh (UD HVV.o hd p _ x wr (hnd.same fun b hb=>hB.block b (HS.o b hb)) (fun b hb=>Ll (HS.o b hb) hB.size) (HL.o x (Aq hx)) (HT.o.below hB) (Ll HP.o hB.size) ((hB.cell (p:=⟨p,0,none⟩) HP.o).trans HC.o))
   have HX:=Hh hx;have HOK:=Hh hok;clear hx hok hnd;cases hv:aB d x with
   | true=>
    rw [hv] at W;have HV1:=Hh hv;clear hv
    go_wp2_with (go_at_call 80;(with_reducible refine (W.o).mono ?_);rintro e w1 ⟨rfl,hb1⟩;(have hB1:=hB.trans (hb1.mono hB.size));clear hb1 hB)
    go_roundw
    case rel=>
     refine ⟨j+1,by go_num,by omega,fun y hy=>?_,hB1⟩
     rw [mS HX.o] at hy;rcases Bb.1 hy with hy | hy
     ·exact HOK.o y hy
     ·cases At.1 hy;exact HV1.o
    case measure=>simp [intOf];omega
   | false=>
    rw [hv] at W;have HV1:=Hh hv;clear hv
    go_wp2_with (go_at_call 80;(with_reducible refine (W.o).mono ?_);rintro e w1 ⟨rfl,hb1⟩;(have hB1:=hB.trans (hb1.mono hB.size));clear hb1 hB)
    go_ret
    have hall:its.all (aB d)=false:=by
     cases hq:its.all (aB d) with
     | false=>rfl
     | true=>
      have:=Aw.1 hq x (Aq HX.o);rw [HV1.o] at this;cases this
    exact ⟨(j:Int),rfl,by rw [hall,An (by omega)];rfl,hB1⟩
  ·have hlt':¬ (j:Int)<(its.length:Int):=by omega
   have hall:its.all (aB d)=true:=by
    rw [Ao (by omega)] at hok
    exact Aw.2 hok
   have HA:=Hh hall;clear hok hall
   go_wp2
   go_ret
   exact ⟨-1,rfl,by rw [HA.o];rfl,hB⟩
theorem GF {d:Nat} (HV:nJ d) (hd:d<100) (p:Nat) {D:Nat} {S:Nat→Prop} (v:Value) (its:List ND) (w:World) (h:cB (aC D S w) S w v its) (hS:∀b,S b→b<w.heap.size) (hl:∀y,y ∈ its→jN D y) (hT:kI w) (hp:p<w.heap.size) (hc:w.cell? ⟨p,0,none⟩=some (Iz ((d:Int)+1))) :
 Calls prog 81 #[v,.func (.func 80) #[] #[.pointer (some ⟨p,0,none⟩)]] w fun e w'=>e=.returned (.bool (!its.all (aB d)))∧Below w.heap.size w w':=by
 have I:=Hh (XG HV hd p v its w h hS hl hT hp hc);generalize (!its.all (aB d))=bad at I ⊢;clear h hS hl hT hp hc HV
 go_enter func81,ntmps81
 go_wp2_with (go_at_call 112;(with_reducible refine (I.o).mono ?_);rintro e w2 ⟨z,rfl,hz,hb2⟩)
 go_ret
 exact ⟨by first | rfl | (rw [←hz]),hb2⟩
theorem TE (x:ND):eQ x=(cE x.kind x.bool x.num x.text x.names.length x.items.length && (aV x.text && (decide (x.items.length≤256) && (!decide (x.kind=5) || iY x.names x.items.length)))):=by
 unfold eQ cE iY
 by_cases hk:x.kind=5
 ·simp [hk,Bool.and_assoc]
 ·by_cases hn:x.names.length=0
  ·have:x.names=[]:=Au.1 hn
   simp [hk,this,Bool.and_assoc]
  ·have:x.names ≠ []:=fun h=>hn (by rw [h];rfl)
   simp [hk,this]
theorem IS {d:Nat} (HV:nJ d) (hd:d<100):nJ (d+1):=by
 intro D S cs x w h hS hl hT;obtain ⟨a1,l1,c1,a2,l2,c2,rfl⟩:=h.slices;cases D with
 | zero=>exact h.elim
 | succ D=>
 obtain ⟨vn,vi,e,ht,hns,his⟩:=h;simp only [Bq,Di,Dp] at e;obtain ⟨rfl,rfl⟩:=e;obtain ⟨ai,ci,ei,hi1,hi2,hi3⟩:=id his;have hl2:l2=x.items.length:=by cases ei;rfl
 clear hi3 ei;obtain ⟨w1,hw1⟩:∃W,W=(w.alloc (.cells (Na x a1 l1 c1 a2 l2 c2) 28)).alloc (.cells #[Iz ((d:Int)+1)] 3):=⟨_,rfl⟩;have hz:(w.alloc (.cells (Na x a1 l1 c1 a2 l2 c2) 28)).heap.size=w.heap.size+1:=by simp
 have b1:Below w.heap.size w w1:=by rw [hw1];exact ((Br _ _).alloc (Lr _) _).alloc (by simp) _
 have hk1:w1.heap[w.heap.size]?=some (.cells (Na x a1 l1 c1 a2 l2 c2) 28 (0,0)):=by rw [hw1];exact (Bh _ _ _ (by omega)).trans (Hn _ _)
 have hp1:w1.heap[w.heap.size+1]?=some (.cells #[Iz ((d:Int)+1)] 3 (0,0)):=by rw [hw1,←hz];exact Hn _ _
 have cp:w1.cell? ⟨w.heap.size+1,0,none⟩=some (Iz ((d:Int)+1)):=by simp [World.cell?,hp1]
 have hps:w.heap.size+1<w1.heap.size:=Aa hp1;have ck:=aA hk1
 -- the contracts at whatever world stands behind
 have FO:=Hh (fun wx=>aAm x.kind x.bool x.num x.text a1 a2 l1 c1 l2 c2 wx)
 have FT:=Hh (fun (wx:World) (hb:Below w1.heap.size w1 wx)=>BU x.text wx ht ((hT.below b1).below hb))
 have FN:=Hh (fun (wx:World) (hb:Below w1.heap.size w1 wx)=>NS x.kind x.bool x.num x.text a1 a2 l1 c1 l2 c2 x.names wx (hns.same (w':=wx) fun b hb'=>(hb.block b (Ll (hS b hb') b1.size)).trans (b1.block b (hS b hb'))) (fun b hb'=>Ll (Ll (hS b hb') b1.size) hb.size) (by rw [hl2];exact hl.1) ((hT.below b1).below hb))
 have FC:=Hh (fun (wx:World) (hb:Below w1.heap.size w1 wx)=>GF HV hd (w.heap.size+1) (.slice a2 l2 c2) x.items wx (his.same (w':=wx) (R':=aC D S wx) (fun b hb'=>(hb.block b (Ll (hS b hb') b1.size)).trans (b1.block b (hS b hb'))) fun cs y q=>q.same fun b hb'=>(hb.block b (Ll (hS b hb') b1.size)).trans (b1.block b (hS b hb'))) (fun b hb'=>Ll (Ll (hS b hb') b1.size) hb.size) hl.2 ((hT.below b1).below hb) (Ll hps hb.size) ((hb.cell (p:=⟨w.heap.size+1,0,none⟩) hps).trans cp))
 have FK:=Hh (fun (wx:World) (hb:Below w1.heap.size w1 wx)=>aA ((hb.block _ (by omega:w.heap.size<w1.heap.size)).trans hk1))
 have hval:aB (d+1) x=(cE x.kind x.bool x.num x.text x.names.length x.items.length && (aV x.text && (decide (x.items.length≤256) && (!decide (x.kind=5) || iY x.names x.items.length))) && x.items.all (aB d)):=by rw [cQ,TE]
 have hl1:l1=x.names.length:=by obtain ⟨_,_,e,_⟩:=hns;cases e;rfl
 have B1:=Hh b1;have hcd:(((d+1:Nat):Int))=(d:Int)+1:=by omega
 have hmf:∀ (fn:Fn) (first cap:Array Value) (w:World),(Instr.makeFunc fn first cap).run prog w=.ok (.func fn first cap) w:=fun _ _ _ _=>rfl
 rw [hcd,hval];rw [←hl1,←hl2];have hl2b:l2≤1000000:=by have:=hl.1;omega
 clear hval ht hns his hS hl hT HV hz hk1 hp1 hcd hl1 hl2 hi1;generalize hA:cE x.kind x.bool x.num x.text l1 l2=bA at FO ⊢;generalize hT':aV x.text=bT at FT ⊢;generalize hN:iY x.names l2=bN at FN ⊢;generalize hC:x.items.all (aB d)=bC at FC ⊢;clear hA hT' hN hC;have hdn:¬ (d:Int)+1<1:=by omega
 cases bA with
 | false=>
  go_enter func44,ntmps44
  go_upto_region 1 with fail
  rw [←hw1];clear hw1
  go_wp2_with ((go_at_call 77;(with_reducible refine (FO.o _).mono ?_);rintro e w2 ⟨rfl,hb2⟩;(have fk2:=FK.o w2 hb2);clear ck))
  go_ret
  exact ⟨rfl,B1.o.trans (hb2.mono B1.o.size)⟩
 | true=>
 cases bT with
 | false=>
  go_enter func44,ntmps44
  go_upto_region 1 with fail
  rw [←hw1];clear hw1
  go_wp2_with (first
   | (go_at_call 77;(with_reducible refine (FO.o _).mono ?_);rintro e w2 ⟨rfl,hb2⟩;(have fk2:=FK.o w2 hb2);clear ck)
   | (go_at_call 78;(with_reducible refine (FT.o _ hb2).mono ?_);rintro e w3 ⟨rfl,hb3'⟩;(have hb3:=hb2.trans (hb3'.mono hb2.size));(have fk3:=FK.o w3 hb3);clear fk2))
  go_ret
  exact ⟨rfl,B1.o.trans (hb3.mono B1.o.size)⟩
 | true=>
 by_cases h256:l2≤256
 ·have h256':¬ (256:Int)<(l2:Int):=by omega
  rw [An h256]
  by_cases hk5:x.kind=5
  ·rw [An hk5]
   have hkb:(x.kind == 5)=true:=by simp [hk5]
   have HK5:=Hh hk5;clear hk5 h256;cases bN with
   | false=>
    go_enter func44,ntmps44
    go_upto_region 1 with fail
    rw [←hw1];clear hw1
    go_wp2_with (first
   | (go_at_call 77;(with_reducible refine (FO.o _).mono ?_);rintro e w2 ⟨rfl,hb2⟩;(have fk2:=FK.o w2 hb2);clear ck)
   | (go_at_call 78;(with_reducible refine (FT.o _ hb2).mono ?_);rintro e w3 ⟨rfl,hb3'⟩;(have hb3:=hb2.trans (hb3'.mono hb2.size));(have fk3:=FK.o w3 hb3);clear fk2)
   | (go_at_call 79;(with_reducible refine (FN.o _ hb3).mono ?_);rintro e w4 ⟨rfl,hb4'⟩;(have hb4:=hb3.trans (hb4'.mono hb3.size));(have fk4:=FK.o w4 hb4);clear fk3))
    go_ret
    exact ⟨rfl,B1.o.trans (hb4.mono B1.o.size)⟩
   | true=>
    go_enter func44,ntmps44
    go_upto_region 1 with fail
    rw [←hw1];clear hw1
    go_wp2_with (first
   | (go_at_call 77;(with_reducible refine (FO.o _).mono ?_);rintro e w2 ⟨rfl,hb2⟩;(have fk2:=FK.o w2 hb2);clear ck)
   | (go_at_call 78;(with_reducible refine (FT.o _ hb2).mono ?_);rintro e w3 ⟨rfl,hb3'⟩;(have hb3:=hb2.trans (hb3'.mono hb2.size));(have fk3:=FK.o w3 hb3);clear fk2)
   | (go_at_call 79;(with_reducible refine (FN.o _ hb3).mono ?_);rintro e w4 ⟨rfl,hb4'⟩;(have hb4:=hb3.trans (hb4'.mono hb3.size));(have fk4:=FK.o w4 hb4);clear fk3)
   | (go_at_call 81;(with_reducible refine (FC.o _ hb4).mono ?_);rintro e w5 ⟨rfl,hb5'⟩;(have hb5:=hb4.trans (hb5'.mono hb4.size))))
    go_ret
    exact ⟨by simp,B1.o.trans (hb5.mono B1.o.size)⟩
  ·rw [Ap hk5]
   have hkb:(x.kind == 5)=false:=by simp [hk5]
   have HK5:=Hh hk5;clear hk5 h256
   go_enter func44,ntmps44
   go_upto_region 1 with fail
   rw [←hw1];clear hw1
   go_wp2_with (first
   | (go_at_call 77;(with_reducible refine (FO.o _).mono ?_);rintro e w2 ⟨rfl,hb2⟩;(have fk2:=FK.o w2 hb2);clear ck)
   | (go_at_call 78;(with_reducible refine (FT.o _ hb2).mono ?_);rintro e w3 ⟨rfl,hb3'⟩;(have hb3:=hb2.trans (hb3'.mono hb2.size));(have fk3:=FK.o w3 hb3);clear fk2)
   | (go_at_call 81;(with_reducible refine (FC.o _ hb3).mono ?_);rintro e w5 ⟨rfl,hb5'⟩;(have hb5:=hb3.trans (hb5'.mono hb3.size))))
   go_ret
   exact ⟨by simp,B1.o.trans (hb5.mono B1.o.size)⟩
 ·have h256':(256:Int)<(l2:Int):=by omega
  rw [Ap h256];clear h256
  go_enter func44,ntmps44
  go_upto_region 1 with fail
  rw [←hw1];clear hw1
  go_wp2_with (first
   | (go_at_call 77;(with_reducible refine (FO.o _).mono ?_);rintro e w2 ⟨rfl,hb2⟩;(have fk2:=FK.o w2 hb2);clear ck)
   | (go_at_call 78;(with_reducible refine (FT.o _ hb2).mono ?_);rintro e w3 ⟨rfl,hb3'⟩;(have hb3:=hb2.trans (hb3'.mono hb2.size));(have fk3:=FK.o w3 hb3);clear fk2))
  go_ret
  exact ⟨rfl,B1.o.trans (hb3.mono B1.o.size)⟩
theorem IR:nJ 0:=by
 intro D S cs x w h hS hl hT;obtain ⟨a1,l1,c1,a2,l2,c2,rfl⟩:=h.slices;clear h hS hl hT
 go_enter func44,ntmps44
 go_wp2
 go_ret
 exact ⟨rfl,((Br _ _).alloc (Lr _) _).alloc (by simp) _⟩
theorem xP:∀d,d<100→nJ d
 | 0,_=>IR
 | d+1,h=>IS (xP d (by omega)) (by omega)
theorem kR {D:Nat} {S:Nat→Prop} (cs:Vl) (x:ND) (w:World) (h:aC D S w cs x) (hS:∀b,S b→b<w.heap.size) (hl:jN D x) (hT:kI w):Calls prog 23 #[.agg cs.toArray] w fun e w'=>e=.returned (.bool (aB 8 x))∧Below w.heap.size w w':=by
 obtain ⟨a1,l1,c1,a2,l2,c2,rfl⟩:=h.slices;have b1:=(Br w.heap.size w).alloc (o:=.cells (Na x a1 l1 c1 a2 l2 c2) 28) (Lr _);have V:=Hh (xP 8 (by decide) D S _ x (w.alloc (.cells (Na x a1 l1 c1 a2 l2 c2) 28)) (h.same fun b hb=>b1.block b (hS b hb)) (fun b hb=>Ll (hS b hb) b1.size) hl (hT.below b1))
 rw [show ((8:Nat):Int)=8 from rfl] at V
 have HB:=Hh b1;generalize aB 8 x=vb at V ⊢;clear h hS hl hT b1
 go_enter func23,ntmps23
 go_wp2_with (go_at_call 44;(with_reducible refine (V.o).mono ?_);rintro e w2 ⟨rfl,hb2⟩)
 go_ret
 exact ⟨rfl,HB.o.trans (hb2.mono HB.o.size)⟩
theorem oL {D:Nat} {S:Nat→Prop} (cs:Vl) (x:ND) (w:World) (h:aC D S w cs x) (hS:∀b,S b→b<w.heap.size) (hl:jG D x) (hT:kI w):Calls prog 23 #[.agg cs.toArray] w fun e w'=>e=.returned (.bool (aB 8 x))∧Below w.heap.size w w':=kR cs x w h hS (fT hl) hT
end Go.Proofs.YtncdpanfefnjlaaGreatDoor