/- The document's own Valid. -/
import Derived.Test.YtcklddldejejcaaGreatDoorNvw
import Derived.Deep.DeepCutAuto
import Derived.Deep.CutRange
set_option linter.unusedVariables false
set_option linter.unusedSimpArgs false
set_option maxRecDepth 100000
set_option maxHeartbeats 8000000
namespace Go.Proofs.YtcklddldejejcaaGreatDoor
open Go Go.Maps Go.ChangeShapes Go.WideShapes Go.ChangeAt Go.RowKit
theorem text_some {t:ByteArray} (h:t ≠ ⟨#[]⟩):(t.toList == ({ data:=#[] }:ByteArray).toList)=false∧(t.toList != ({ data:=#[] }:ByteArray).toList)=true∧(t.toList == [])=false∧(t.toList != [])=true∧t.toList ≠ []:=by
 have h0:t.toList ≠ []:=fun e=>h ((text_nil t).2 e)
 have e0:({ data:=#[] }:ByteArray).toList=[]:=by rw [ByteArray.toList_eq]
 have h1:(t.toList == [])=false:=beq_eq_false_iff_ne.2 h0
 rw [e0]
 exact ⟨h1,by rw [bne,h1];rfl,h1,by rw [bne,h1];rfl,h0⟩
def preB (k:Int) (b:Bool) (n:Int) (t:ByteArray) (l1 l2:Nat):Bool:=onlyB k b n t l1 l2 && (textOk t && (decide (l2≤256) && (!decide (k=5) || decide (l1=l2))))
theorem preB_parts {k:Int} {b:Bool} {n:Int} {t:ByteArray} {l1 l2:Nat} (h:preB k b n t l1 l2=true):l2≤256∧(k=5→l1=l2)∧(k ≠ 5→l1=0)∧l1≤256:=by
 unfold preB onlyB at h
 simp only [Bool.and_eq_true,Bool.or_eq_true,decide_eq_true_eq,Bool.not_eq_true',decide_eq_false_iff_not] at h
 obtain ⟨⟨-,h7⟩,-,h9,h10⟩:=h
 have h5:k=5→l1=l2:=fun e=>h10.resolve_left (fun q=>q e)
 have h6:k ≠ 5→l1=0:=fun e=>h7.resolve_right e
 refine ⟨h9,h5,h6,?_⟩
 by_cases hk:k=5
 ·have:=h5 hk;omega
 ·have:=h6 hk;omega
def nmsB (ns:List ByteArray):Bool:=ns.all textOk && decide ns.Nodup
theorem nmsB_true {ns:List ByteArray} (h1:∀s,s ∈ ns→textOk s=true) (h2:ns.Nodup):nmsB ns=true:=by unfold nmsB;rw [List.all_eq_true.2 h1,decide_eq_true h2];rfl
theorem nmsB_dup {ns:List ByteArray} (h2:¬ns.Nodup):nmsB ns=false:=by unfold nmsB;rw [decide_eq_false h2,Bool.and_false]
theorem nmsB_bad {ns:List ByteArray} {s:ByteArray} (h:s ∈ ns) (h2:¬textOk s=true):nmsB ns=false:=by
 unfold nmsB
 cases hq:ns.all textOk with
 | false=>rfl
 | true=>exact absurd (List.all_eq_true.1 hq s h) h2
theorem flat_pre (x:ND):flatOk x=(preB x.kind x.bool x.num x.text x.names.length x.items.length && nmsB x.names):=by
 rw [flat_eq]
 unfold preB namesB nmsB
 by_cases hk:x.kind=5
 ·simp [hk,Bool.and_assoc]
 ·by_cases hl:x.names.length=0
  ·have:x.names=[]:=List.length_eq_zero_iff.1 hl
   simp [hk,this]
  ·have:onlyB x.kind x.bool x.num x.text x.names.length x.items.length=false:=by
    unfold onlyB
    rw [decide_eq_false hl,decide_eq_false hk]
    simp
   rw [this];simp
theorem r5text_any (s:ByteArray) (w:World) (hs:s.size≤maxLen - 2) (hT:Utab w):Calls Tryz.prog 160 #[.string s] w fun e w'=>e=.returned (.bool (textOk s))∧Below w.heap.size w w':=by
 unfold maxLen at hs
 have V:=Hh (valid_any s w (by unfold maxLen;omega) hT)
 by_cases h:s.size≤65536
 ·have h1:(s.size:Int)≤65536:=by omega
  have e:textOk s=Lib.validD s.data.toList:=by unfold textOk;rw [decide_eq_true h];rfl
  rw [e]
  clear e hT
  generalize Lib.validD s.data.toList=b at V ⊢
  go_enter Tryz.func160,Tryz.ntmps160
  go_wp2_with (go_at_call 166;(with_reducible refine (V.out).mono ?_);rintro e w1 ⟨rfl,hb⟩)
  go_ret
  exact ⟨rfl,hb⟩
 ·have h1:¬ (s.size:Int)≤65536:=by omega
  have e:textOk s=false:=by unfold textOk;rw [decide_eq_false h];rfl
  rw [e]
  clear e hT
  go_enter Tryz.func160,Tryz.ntmps160
  go_wp2
  go_ret
  exact ⟨rfl,Br _ _⟩
theorem lawStrR:Keyed Tryz.prog 9:=string_keyed Tryz.underlying9
theorem zeroBoolR (w:World):(zeroValue 4).run Tryz.prog w=.ok (.bool false) w:=by kernel_rfl
def RValidAt (d:Nat):Prop:=∀ (D:Nat) (S:Nat→Prop) (cs:List Value) (x:ND) (w:World),NodeIn D S w cs x→(∀b,S b→b<w.heap.size)→lowV D x→Utab w→Calls Tryz.prog 108 #[.agg cs.toArray,.int .i64 (d:Int)] w fun e w'=>e=.returned (.bool (validN d x))∧Below w.heap.size w w'
theorem rvalid_step {d:Nat} (IH:RValidAt d) (hd:d<100):RValidAt (d+1):=by
 intro D S cs x w h hS hl hT
 obtain ⟨a1,l1,c1,a2,l2,c2,rfl⟩:=h.slices
 cases D with
 | zero=>exact h.elim
 | succ D=>
 obtain ⟨vn,vi,e,ht,hns,his⟩:=h
 simp only [List.cons.injEq,and_true,true_and] at e
 obtain ⟨rfl,rfl⟩:=e
 have hl1:l1=x.names.length:=by obtain ⟨_,_,e,_⟩:=id hns;cases e;rfl
 have hl2:l2=x.items.length:=by obtain ⟨_,_,e,_⟩:=id his;cases e;rfl
 have hl2b:l2≤1000000:=by rw [hl2];exact hl.1
 have hval:validN (d+1) x=(preB x.kind x.bool x.num x.text l1 l2 && nmsB x.names && x.items.all (validN d)):=by rw [validN_succ,flat_pre,hl1,hl2]
 have hll:=hl.2
 obtain ⟨k,b,n,t,ns,its⟩:=x
 simp only [ND.kind,ND.bool,ND.num,ND.text,ND.names,ND.items] at ht hns his hl1 hl2 hval hll ⊢
 have hb1:=(Br w.heap.size w).alloc (o:=.cells #[.int .i64 k,.bool b,.int .i64 n,.string t,.slice a1 l1 c1,.slice a2 l2 c2] 28) (Lr _)
 have ck:=six_of (Hn w (.cells #[.int .i64 k,.bool b,.int .i64 n,.string t,.slice a1 l1 c1,.slice a2 l2 c2] 28))
 have hwl:w.heap.size<(w.alloc (.cells #[.int .i64 k,.bool b,.int .i64 n,.string t,.slice a1 l1 c1,.slice a2 l2 c2] 28)).heap.size:=by simp
 have hdp:((d+1:Nat):Int)=(d:Int)+1:=by omega
 have hd1:¬ (d:Int)+1<1:=by omega
 rw [hval,hdp]
 have H:=Hh his
 have HN:=Hh hns
 have HS:=Hh hS
 have HT:=Hh hT
 have HTX:=Hh ht
 have HLL:=Hh hll
 have HL1:=Hh hl1
 have HL2:=Hh hl2
 have HI:=Hh IH
 clear his hns hS hT ht hll hl1 hl2 hval hl IH hdp
 go_enter Tryz.func108,Tryz.ntmps108
 go_upto_region 1 with fail
 generalize w.alloc (.cells #[.int .i64 k,.bool b,.int .i64 n,.string t,.slice a1 l1 c1,.slice a2 l2 c2] 28)=w1 at hb1 ck hwl ⊢
 have B1:=Hh hb1
 have CK:=Hh ck
 have WL:=Hh hwl
 clear hb1 hwl
 go_cut [5] from 11 to 73 (fun v wx=>v=.bool (!onlyB k b n t l1 l2)∧wx=w1)
 case first=>
  rcases Int.lt_or_le k 0 with hk | hk
  ·have:decide (0≤k)=false:=decide_eq_false (by omega)
   go_wp2;go_meet;case rel=>exact ⟨by first | rfl | (refine congrArg Value.bool ?_;simp [onlyB, *];try omega),rfl⟩
  rcases Int.lt_or_le 5 k with hk5 | hk5
  ·have:decide (k≤5)=false:=decide_eq_false (by omega)
   have hk0:¬k<0:=by omega
   go_wp2;go_meet;case rel=>exact ⟨by first | rfl | (refine congrArg Value.bool ?_;simp [onlyB, *];try omega),rfl⟩
  obtain rfl | rfl | rfl | rfl | rfl | rfl:k=0∨k=1∨k=2∨k=3∨k=4∨k=5:=by omega
  ·rcases Bool.eq_false_or_eq_true b with rfl | rfl
   ·go_wp2;go_meet;case rel=>exact ⟨by first | rfl | (refine congrArg Value.bool ?_;simp [onlyB, *];try omega),rfl⟩
   ·by_cases hn:n=0
    ·subst hn
     by_cases ht0:t=⟨#[]⟩
     ·subst ht0
      by_cases hz2:l2=0
      ·subst hz2
       by_cases hz1:l1=0
       ·subst hz1
        go_wp2;go_meet;case rel=>exact ⟨by first | rfl | (refine congrArg Value.bool ?_;simp [onlyB, *];try omega),rfl⟩
       ·have hz1':(0:Int)<(l1:Int):=by omega
        go_wp2;go_meet;case rel=>exact ⟨by first | rfl | (refine congrArg Value.bool ?_;simp [onlyB, *];try omega),rfl⟩
      ·have hz2':(0:Int)<(l2:Int):=by omega
       go_wp2;go_meet;case rel=>exact ⟨by first | rfl | (refine congrArg Value.bool ?_;simp [onlyB, *];try omega),rfl⟩
     ·obtain ⟨ht1,ht2,ht3,ht4,ht5⟩:=text_some ht0
      go_wp2;go_meet;case rel=>exact ⟨by first | rfl | (refine congrArg Value.bool ?_;simp [onlyB, *];try omega),rfl⟩
    ·have hn1:(n != 0)=true:=by simp [hn]
     have hn2:(n == 0)=false:=by simp [hn]
     go_wp2;go_meet;case rel=>exact ⟨by first | rfl | (refine congrArg Value.bool ?_;simp [onlyB, *];try omega),rfl⟩
  ·rcases Bool.eq_false_or_eq_true b with rfl | rfl
   ·by_cases hn:n=0
    ·subst hn
     by_cases ht0:t=⟨#[]⟩
     ·subst ht0
      by_cases hz2:l2=0
      ·subst hz2
       by_cases hz1:l1=0
       ·subst hz1
        go_wp2;go_meet;case rel=>exact ⟨by first | rfl | (refine congrArg Value.bool ?_;simp [onlyB, *];try omega),rfl⟩
       ·have hz1':(0:Int)<(l1:Int):=by omega
        go_wp2;go_meet;case rel=>exact ⟨by first | rfl | (refine congrArg Value.bool ?_;simp [onlyB, *];try omega),rfl⟩
      ·have hz2':(0:Int)<(l2:Int):=by omega
       go_wp2;go_meet;case rel=>exact ⟨by first | rfl | (refine congrArg Value.bool ?_;simp [onlyB, *];try omega),rfl⟩
     ·obtain ⟨ht1,ht2,ht3,ht4,ht5⟩:=text_some ht0
      go_wp2;go_meet;case rel=>exact ⟨by first | rfl | (refine congrArg Value.bool ?_;simp [onlyB, *];try omega),rfl⟩
    ·have hn1:(n != 0)=true:=by simp [hn]
     have hn2:(n == 0)=false:=by simp [hn]
     go_wp2;go_meet;case rel=>exact ⟨by first | rfl | (refine congrArg Value.bool ?_;simp [onlyB, *];try omega),rfl⟩
   ·by_cases hn:n=0
    ·subst hn
     by_cases ht0:t=⟨#[]⟩
     ·subst ht0
      by_cases hz2:l2=0
      ·subst hz2
       by_cases hz1:l1=0
       ·subst hz1
        go_wp2;go_meet;case rel=>exact ⟨by first | rfl | (refine congrArg Value.bool ?_;simp [onlyB, *];try omega),rfl⟩
       ·have hz1':(0:Int)<(l1:Int):=by omega
        go_wp2;go_meet;case rel=>exact ⟨by first | rfl | (refine congrArg Value.bool ?_;simp [onlyB, *];try omega),rfl⟩
      ·have hz2':(0:Int)<(l2:Int):=by omega
       go_wp2;go_meet;case rel=>exact ⟨by first | rfl | (refine congrArg Value.bool ?_;simp [onlyB, *];try omega),rfl⟩
     ·obtain ⟨ht1,ht2,ht3,ht4,ht5⟩:=text_some ht0
      go_wp2;go_meet;case rel=>exact ⟨by first | rfl | (refine congrArg Value.bool ?_;simp [onlyB, *];try omega),rfl⟩
    ·have hn1:(n != 0)=true:=by simp [hn]
     have hn2:(n == 0)=false:=by simp [hn]
     go_wp2;go_meet;case rel=>exact ⟨by first | rfl | (refine congrArg Value.bool ?_;simp [onlyB, *];try omega),rfl⟩
  ·rcases Bool.eq_false_or_eq_true b with rfl | rfl
   ·go_wp2;go_meet;case rel=>exact ⟨by first | rfl | (refine congrArg Value.bool ?_;simp [onlyB, *];try omega),rfl⟩
   ·by_cases hn:n=0
    ·subst hn
     by_cases ht0:t=⟨#[]⟩
     ·subst ht0
      by_cases hz2:l2=0
      ·subst hz2
       by_cases hz1:l1=0
       ·subst hz1
        go_wp2;go_meet;case rel=>exact ⟨by first | rfl | (refine congrArg Value.bool ?_;simp [onlyB, *];try omega),rfl⟩
       ·have hz1':(0:Int)<(l1:Int):=by omega
        go_wp2;go_meet;case rel=>exact ⟨by first | rfl | (refine congrArg Value.bool ?_;simp [onlyB, *];try omega),rfl⟩
      ·have hz2':(0:Int)<(l2:Int):=by omega
       go_wp2;go_meet;case rel=>exact ⟨by first | rfl | (refine congrArg Value.bool ?_;simp [onlyB, *];try omega),rfl⟩
     ·obtain ⟨ht1,ht2,ht3,ht4,ht5⟩:=text_some ht0
      go_wp2;go_meet;case rel=>exact ⟨by first | rfl | (refine congrArg Value.bool ?_;simp [onlyB, *];try omega),rfl⟩
    ·have hn1:(n != 0)=true:=by simp [hn]
     have hn2:(n == 0)=false:=by simp [hn]
     by_cases ht0:t=⟨#[]⟩
     ·subst ht0
      by_cases hz2:l2=0
      ·subst hz2
       by_cases hz1:l1=0
       ·subst hz1
        go_wp2;go_meet;case rel=>exact ⟨by first | rfl | (refine congrArg Value.bool ?_;simp [onlyB, *];try omega),rfl⟩
       ·have hz1':(0:Int)<(l1:Int):=by omega
        go_wp2;go_meet;case rel=>exact ⟨by first | rfl | (refine congrArg Value.bool ?_;simp [onlyB, *];try omega),rfl⟩
      ·have hz2':(0:Int)<(l2:Int):=by omega
       go_wp2;go_meet;case rel=>exact ⟨by first | rfl | (refine congrArg Value.bool ?_;simp [onlyB, *];try omega),rfl⟩
     ·obtain ⟨ht1,ht2,ht3,ht4,ht5⟩:=text_some ht0
      go_wp2;go_meet;case rel=>exact ⟨by first | rfl | (refine congrArg Value.bool ?_;simp [onlyB, *];try omega),rfl⟩
  ·rcases Bool.eq_false_or_eq_true b with rfl | rfl
   ·go_wp2;go_meet;case rel=>exact ⟨by first | rfl | (refine congrArg Value.bool ?_;simp [onlyB, *];try omega),rfl⟩
   ·by_cases hn:n=0
    ·subst hn
     by_cases ht0:t=⟨#[]⟩
     ·subst ht0
      by_cases hz2:l2=0
      ·subst hz2
       by_cases hz1:l1=0
       ·subst hz1
        go_wp2;go_meet;case rel=>exact ⟨by first | rfl | (refine congrArg Value.bool ?_;simp [onlyB, *];try omega),rfl⟩
       ·have hz1':(0:Int)<(l1:Int):=by omega
        go_wp2;go_meet;case rel=>exact ⟨by first | rfl | (refine congrArg Value.bool ?_;simp [onlyB, *];try omega),rfl⟩
      ·have hz2':(0:Int)<(l2:Int):=by omega
       go_wp2;go_meet;case rel=>exact ⟨by first | rfl | (refine congrArg Value.bool ?_;simp [onlyB, *];try omega),rfl⟩
     ·obtain ⟨ht1,ht2,ht3,ht4,ht5⟩:=text_some ht0
      by_cases hz2:l2=0
      ·subst hz2
       by_cases hz1:l1=0
       ·subst hz1
        go_wp2;go_meet;case rel=>exact ⟨by first | rfl | (refine congrArg Value.bool ?_;simp [onlyB, *];try omega),rfl⟩
       ·have hz1':(0:Int)<(l1:Int):=by omega
        go_wp2;go_meet;case rel=>exact ⟨by first | rfl | (refine congrArg Value.bool ?_;simp [onlyB, *];try omega),rfl⟩
      ·have hz2':(0:Int)<(l2:Int):=by omega
       go_wp2;go_meet;case rel=>exact ⟨by first | rfl | (refine congrArg Value.bool ?_;simp [onlyB, *];try omega),rfl⟩
    ·have hn1:(n != 0)=true:=by simp [hn]
     have hn2:(n == 0)=false:=by simp [hn]
     go_wp2;go_meet;case rel=>exact ⟨by first | rfl | (refine congrArg Value.bool ?_;simp [onlyB, *];try omega),rfl⟩
  ·rcases Bool.eq_false_or_eq_true b with rfl | rfl
   ·go_wp2;go_meet;case rel=>exact ⟨by first | rfl | (refine congrArg Value.bool ?_;simp [onlyB, *];try omega),rfl⟩
   ·by_cases hn:n=0
    ·subst hn
     by_cases ht0:t=⟨#[]⟩
     ·subst ht0
      by_cases hz2:l2=0
      ·subst hz2
       by_cases hz1:l1=0
       ·subst hz1
        go_wp2;go_meet;case rel=>exact ⟨by first | rfl | (refine congrArg Value.bool ?_;simp [onlyB, *];try omega),rfl⟩
       ·have hz1':(0:Int)<(l1:Int):=by omega
        go_wp2;go_meet;case rel=>exact ⟨by first | rfl | (refine congrArg Value.bool ?_;simp [onlyB, *];try omega),rfl⟩
      ·have hz2':(0:Int)<(l2:Int):=by omega
       by_cases hz1:l1=0
       ·subst hz1
        go_wp2;go_meet;case rel=>exact ⟨by first | rfl | (refine congrArg Value.bool ?_;simp [onlyB, *];try omega),rfl⟩
       ·have hz1':(0:Int)<(l1:Int):=by omega
        go_wp2;go_meet;case rel=>exact ⟨by first | rfl | (refine congrArg Value.bool ?_;simp [onlyB, *];try omega),rfl⟩
     ·obtain ⟨ht1,ht2,ht3,ht4,ht5⟩:=text_some ht0
      go_wp2;go_meet;case rel=>exact ⟨by first | rfl | (refine congrArg Value.bool ?_;simp [onlyB, *];try omega),rfl⟩
    ·have hn1:(n != 0)=true:=by simp [hn]
     have hn2:(n == 0)=false:=by simp [hn]
     go_wp2;go_meet;case rel=>exact ⟨by first | rfl | (refine congrArg Value.bool ?_;simp [onlyB, *];try omega),rfl⟩
  ·rcases Bool.eq_false_or_eq_true b with rfl | rfl
   ·go_wp2;go_meet;case rel=>exact ⟨by first | rfl | (refine congrArg Value.bool ?_;simp [onlyB, *];try omega),rfl⟩
   ·by_cases hn:n=0
    ·subst hn
     by_cases ht0:t=⟨#[]⟩
     ·subst ht0
      by_cases hz2:l2=0
      ·subst hz2
       by_cases hz1:l1=0
       ·subst hz1
        go_wp2;go_meet;case rel=>exact ⟨by first | rfl | (refine congrArg Value.bool ?_;simp [onlyB, *];try omega),rfl⟩
       ·have hz1':(0:Int)<(l1:Int):=by omega
        go_wp2;go_meet;case rel=>exact ⟨by first | rfl | (refine congrArg Value.bool ?_;simp [onlyB, *];try omega),rfl⟩
      ·have hz2':(0:Int)<(l2:Int):=by omega
       by_cases hz1:l1=0
       ·subst hz1
        go_wp2;go_meet;case rel=>exact ⟨by first | rfl | (refine congrArg Value.bool ?_;simp [onlyB, *];try omega),rfl⟩
       ·have hz1':(0:Int)<(l1:Int):=by omega
        go_wp2;go_meet;case rel=>exact ⟨by first | rfl | (refine congrArg Value.bool ?_;simp [onlyB, *];try omega),rfl⟩
     ·obtain ⟨ht1,ht2,ht3,ht4,ht5⟩:=text_some ht0
      go_wp2;go_meet;case rel=>exact ⟨by first | rfl | (refine congrArg Value.bool ?_;simp [onlyB, *];try omega),rfl⟩
    ·have hn1:(n != 0)=true:=by simp [hn]
     have hn2:(n == 0)=false:=by simp [hn]
     go_wp2;go_meet;case rel=>exact ⟨by first | rfl | (refine congrArg Value.bool ?_;simp [onlyB, *];try omega),rfl⟩
 case rest=>
  obtain ⟨rfl,rfl⟩:=hcut
  obtain ⟨bO,hbO⟩:∃q,q=onlyB k b n t l1 l2:=⟨_,rfl⟩
  rw [←hbO]
  have HT1:=Hh (HT.out.below B1.out)
  obtain ⟨bP,hbP⟩:∃q,q=preB k b n t l1 l2:=⟨_,rfl⟩
  have HBO:=Hh hbO
  have HBP:=Hh hbP
  clear hbO hbP
  go_upto_region 2 with fail
  go_cut [100] from 74 to 99 (fun v wx=>v=.bool (!bP)∧Below wc.heap.size wc wx)
  case first=>
   have TX:=Hh (r5text_any t wc HTX.out HT1.out)
   have FK:=Hh (fun (wx:World) (hb:Below wc.heap.size wc wx)=>(show wx.cell? ⟨w.heap.size,0,none⟩=some (.int .i64 k)∧wx.cell? ⟨w.heap.size,4,none⟩=some (.slice a1 l1 c1)∧wx.cell? ⟨w.heap.size,5,none⟩=some (.slice a2 l2 c2) from ⟨(hb.cell (p:=⟨w.heap.size,0,none⟩) WL.out).trans CK.out.1,(hb.cell (p:=⟨w.heap.size,4,none⟩) WL.out).trans CK.out.2.2.2.2.1,(hb.cell (p:=⟨w.heap.size,5,none⟩) WL.out).trans CK.out.2.2.2.2.2⟩))
   have HP:Hid (bP=(bO && (textOk t && (decide (l2≤256) && (!decide (k=5) || decide (l1=l2)))))):=Hh (by rw [HBP.out,HBO.out];rfl)
   generalize textOk t=bT at TX HP
   cases bO with
   | false=>
    go_wp2;go_meet
    case rel=>exact ⟨by rw [HP.out];rfl,Br _ _⟩
   | true=>
   cases bT with
   | false=>
    go_wp2_with (go_at_call 160;(with_reducible refine (TX.out).mono ?_);rintro e w3 ⟨rfl,hb3⟩)
    go_meet
    case rel=>exact ⟨by rw [HP.out];rfl,hb3⟩
   | true=>
   by_cases h256:l2≤256
   ·have h256':¬ (256:Int)<(l2:Int):=by omega
    by_cases hk5:k=5
    ·subst hk5
     by_cases h12:l1=l2
     ·have h12':((l1:Int) != (l2:Int))=false:=by simp [h12]
      have e12:decide (l1=l2)=true:=decide_eq_true h12
      clear h12
      go_wp2_with (go_at_call 160;(with_reducible refine (TX.out).mono ?_);rintro e w3 ⟨rfl,hb3⟩;(have fk:=FK.out w3 hb3);clear ck)
      go_meet
      case rel=>exact ⟨by rw [HP.out,e12,decide_eq_true h256];exact congrArg Value.bool (decide_eq_false (by omega)),hb3⟩
     ·have h12':((l1:Int) != (l2:Int))=true:=by simp;omega
      go_wp2_with (go_at_call 160;(with_reducible refine (TX.out).mono ?_);rintro e w3 ⟨rfl,hb3⟩;(have fk:=FK.out w3 hb3);clear ck)
      go_meet
      case rel=>exact ⟨by rw [HP.out,decide_eq_false h12,decide_eq_true h256];rfl,hb3⟩
    ·have hk5':(k == 5)=false:=by simp [hk5]
     go_wp2_with (go_at_call 160;(with_reducible refine (TX.out).mono ?_);rintro e w3 ⟨rfl,hb3⟩;(have fk:=FK.out w3 hb3);clear ck)
     go_meet
     case rel=>exact ⟨by rw [HP.out,decide_eq_true h256,decide_eq_false hk5];exact congrArg Value.bool (decide_eq_false (by omega)),hb3⟩
   ·have h256':(256:Int)<(l2:Int):=by omega
    go_wp2_with (go_at_call 160;(with_reducible refine (TX.out).mono ?_);rintro e w3 ⟨rfl,hb3⟩;(have fk:=FK.out w3 hb3);clear ck)
    go_meet
    case rel=>exact ⟨by rw [HP.out,decide_eq_false h256];rfl,hb3⟩
  case rest=>
   obtain ⟨rfl,hB2⟩:=hcut
   obtain ⟨w3,hw3⟩:∃w3,w3=wc:=⟨_,rfl⟩
   cases hbp:bP with
   | false=>
    go_wp2
    go_ret
    exact ⟨by rw [←HBP.out,hbp];rfl,B1.out.trans (hB2.mono B1.out.size)⟩
   | true=>
   obtain ⟨p1,-,-,p2⟩:=preB_parts (HBP.out.symm.trans hbp)
   have hB:=B1.out.trans (hB2.mono B1.out.size)
   have ck3:wc.cell? ⟨w.heap.size,4,none⟩=some (.slice a1 l1 c1)∧wc.cell? ⟨w.heap.size,5,none⟩=some (.slice a2 l2 c2):=⟨(hB2.cell (p:=⟨w.heap.size,4,none⟩) WL.out).trans CK.out.2.2.2.2.1,(hB2.cell (p:=⟨w.heap.size,5,none⟩) WL.out).trans CK.out.2.2.2.2.2⟩
   have hwl3:w.heap.size<wc.heap.size:=Ll WL.out hB2.size
   have HV1:Hid (preB k b n t l1 l2=true):=Hh (HBP.out.symm.trans hbp)
   have WL3:=Hh hwl3
   clear ck CK hB2 hbp HT1 HBO WL hwl3
   have hmm:=@run_makeMap Tryz.prog
   have HSET:=Hh (OwnsSet.made wc Tryz.prog 9 4)
   have bM:=hB.alloc (o:=.map #[] 0) hB.size
   have BM:=Hh bM
   have CK3:Hid ((wc.alloc (.map #[] 0)).cell? ⟨w.heap.size,4,none⟩=some (.slice a1 l1 c1)∧(wc.alloc (.map #[] 0)).cell? ⟨w.heap.size,5,none⟩=some (.slice a2 l2 c2)):=Hh ⟨(((Br wc.heap.size wc).alloc (Lr _) _).cell (p:=⟨w.heap.size,4,none⟩) WL3.out).trans ck3.1,(((Br wc.heap.size wc).alloc (Lr _) _).cell (p:=⟨w.heap.size,5,none⟩) WL3.out).trans ck3.2⟩
   have BW:=Hh hB
   have hgs:w.heap.size≤wc.heap.size:=hB.size
   clear bM hB ck3 HBP hw3 w3
   go_upto_region 5 with fail
   generalize wc.alloc (.map #[] 0)=w4 at BM CK3 HSET ⊢
   have ck4:=CK3.out
   go_upto_region 6 with fail
   clear ck4
   go_loopw [105] (fun i wr=>∃j:Nat,i=.int .i64 j∧j≤l1∧OwnsSet Tryz.prog 9 4 wr wc.heap.size (ns.take j).reverse∧(∀s,s ∈ ns.take j→textOk s=true)∧(ns.take j).Nodup∧Below w.heap.size w wr∧wr.cell? ⟨w.heap.size,5,none⟩=some (.slice a2 l2 c2)) (fun i _=>l1 - (intOf i).toNat)
   case atStart=>exact ⟨0,rfl,Nat.zero_le _,HSET.out,(fun s h=>by simp at h),by simp,BM.out,CK3.out.2⟩
   case round=>
    obtain ⟨j,rfl,hj,hset,hok,hnd,hB,hc5⟩:=hrel
    clear HSET BM CK3
    by_cases hlt:j<l1
    ·have hlt':(j:Int)<(l1:Int):=by omega
     have hj0:(0:Int)≤(j:Int):=by omega
     have hjn:j<ns.length:=by have:=HL1.out;omega
     obtain ⟨-,-,-,bb,off,rfl,hSb,hc,hs⟩:=HN.out.at hjn
     have hcw:=(hB.cell (p:=⟨bb,off+j,none⟩) (HS.out bb hSb)).trans hc
     obtain ⟨s,hse⟩:∃s,s=ns[j]:=⟨_,rfl⟩
     rw [←hse] at hc hs hcw
     have hsj:ns[j]?=some s:=by rw [List.getElem?_eq_getElem hjn,hse]
     have htk:ns.take (j+1)=ns.take j++[s]:=by rw [List.take_add_one,hsj];rfl
     have V:=Hh (r5text_any s wr hs (HT.out.below hB))
     have hkey:=WideMaps.keyOf_string_mk (P:=Tryz.prog) (k:=9) (s:=s) Tryz.underlying9 (by unfold maxLen at hs ⊢;omega)
     have HTK:=Hh htk
     have HSJ:=Hh hsj
     have HOK:=Hh hok
     have HND:=Hh hnd
     have HST:=Hh hset
     clear hc hs hse hsj htk hok hnd hset
     by_cases hto:textOk s=true
     ·rw [hto] at V
      by_cases hin:s ∈ ns.take j
      ·have hnn:nmsB ns=false:=by
        refine nmsB_dup fun hn=>?_
        rw [List.nodup_iff_pairwise_ne,List.pairwise_iff_getElem] at hn
        obtain ⟨q,hq,e⟩:=List.getElem_of_mem hin
        rw [List.length_take] at hq
        rw [List.getElem_take] at e
        refine hn q j (by omega) hjn (by omega) ?_
        rw [e]
        have:=HSJ.out
        rw [List.getElem?_eq_getElem hjn] at this
        exact (Option.some.inj this).symm
       have HNN:=Hh hnn
       have L:=fun wx (h:OwnsSet Tryz.prog 9 4 wx wc.heap.size (ns.take j).reverse)=>h.look (t:=176) lawStrR Tryz.underlying176 Tryz.underlying4 (zeroBoolR wx) s hkey
       rw [(inB_iff s _).2 (List.mem_reverse.2 hin)] at L
       have LL:=Hh L
       clear L hnn hin hkey
       go_wp2_with (go_at_call 160;(with_reducible refine (V.out).mono ?_);rintro e w1 ⟨rfl,hb1⟩;(have hlook:=LL.out w1 (HST.out.below hb1));(have hB1:=hB.trans (hb1.mono hB.size));clear hb1 hB)
       go_ret
       exact ⟨by rw [HNN.out,Bool.and_false,Bool.false_and];rfl,hB1⟩
      ·have L:=fun wx (h:OwnsSet Tryz.prog 9 4 wx wc.heap.size (ns.take j).reverse)=>h.look (t:=176) lawStrR Tryz.underlying176 Tryz.underlying4 (zeroBoolR wx) s hkey
       have hinB:inB s (ns.take j).reverse=false:=by
        cases hq:inB s (ns.take j).reverse with
        | false=>rfl
        | true=>exact absurd (List.mem_reverse.1 ((inB_iff s _).1 hq)) hin
       rw [hinB] at L
       have LL:=Hh L
       have HIN:=Hh hin
       have HKEY:=Hh hkey
       have hlr:(ns.take j).reverse.length<1000000:=by rw [List.length_reverse,List.length_take];omega
       have HTO:=Hh hto
       have hgn:w.heap.size ≠ wc.heap.size:=by have:=WL3.out;omega
       clear L hin hkey hinB hto
       go_wp2_with (first
        | (go_at_call 160;(with_reducible refine (V.out).mono ?_);rintro e w1 ⟨rfl,hb1⟩;(have hlook:=LL.out w1 (HST.out.below hb1));(have hB1:=hB.trans (hb1.mono hB.size));(have hset1:=HST.out.below hb1);(have hc51:=(hb1.cell (p:=⟨w.heap.size,5,none⟩) (Ll WL3.out (Nat.le_of_lt HST.out.lt))).trans hc5);clear hb1 hB)
        | (at_mapUpdate;refine wpList_mapUpdate_own _ rfl _ _ _ 176 rfl 9 4 lawStrR Tryz.underlying176 _ wc.heap.size (ns.take j).reverse.length _ rfl hset1 (by unfold maxLen;omega) _ _ _ rfl rfl HKEY.out _ [] (plainElem_bool Tryz.underlying4 true) ?_;intro w2 hown2 hgrow2))
       have hset2:OwnsSet Tryz.prog 9 4 w2 wc.heap.size (s::(ns.take j).reverse):=OwnsSet.put hown2
       have hB2:=gbelow hB1 hgrow2 hB1.size (by omega)
       have hc52:w2.cell? ⟨w.heap.size,5,none⟩=some (.slice a2 l2 c2):=(cell_same (hgrow2.block w.heap.size (Ll WL3.out (Nat.le_of_lt hset1.lt)) (fun e=>hgn (Option.some.inj e)))).trans hc51
       clear hown2 hgrow2 hB1 hset1 hlook hc51 hc5
       go_wp2
       go_roundw
       case rel=>
        refine ⟨j+1,by go_num,by omega,?_,?_,?_,hB2,hc52⟩
        ·rw [HTK.out,List.reverse_append];exact hset2
        ·intro y hy
         rw [HTK.out] at hy
         rcases List.mem_append.1 hy with hy | hy
         ·exact HOK.out y hy
         ·cases List.mem_singleton.1 hy;exact HTO.out
        ·rw [HTK.out,List.nodup_append]
         refine ⟨HND.out,by simp,fun a ha b hb=>?_⟩
         cases List.mem_singleton.1 hb
         intro e
         subst e
         exact HIN.out ha
       case measure=>simp [intOf];omega
     ·have hnn:nmsB ns=false:=nmsB_bad (List.mem_of_getElem? HSJ.out) hto
      have HNN:=Hh hnn
      have hto':textOk s=false:=by simpa using hto
      rw [hto'] at V
      clear hnn hto hto' hkey
      go_wp2_with (go_at_call 160;(with_reducible refine (V.out).mono ?_);rintro e w1 ⟨rfl,hb1⟩;(have hB1:=hB.trans (hb1.mono hB.size));clear hb1 hB)
      go_ret
      exact ⟨by rw [HNN.out,Bool.and_false,Bool.false_and];rfl,hB1⟩
    ·have hlt':¬ (j:Int)<(l1:Int):=by omega
     have hjl:ns.take j=ns:=List.take_of_length_le (by have:=HL1.out;omega)
     rw [hjl] at hok hnd
     have HNA:Hid ((preB k b n t l1 l2 && nmsB ns)=true):=Hh (by rw [HV1.out,nmsB_true hok hnd];rfl)
     clear hjl hset hok hnd hj hlt
     go_upto_region 13 with fail
     have HB:=Hh hB
     have HC5:=Hh hc5
     clear hB hc5
     go_loopw [123] (fun i wr=>∃j:Nat,i=.int .i64 j∧j≤l2∧(∀y,y ∈ its.take j→validN d y=true)∧Below w.heap.size w wr) (fun i _=>l2 - (intOf i).toNat)
     case atStart=>exact ⟨0,rfl,Nat.zero_le _,(fun y hy=>by simp at hy),HB.out⟩
     case round=>
      clear HB
      obtain ⟨q,rfl,hq,hok,hB⟩:=hrel
      by_cases hlt:q<l2
      ·have hlt2:(q:Int)<(l2:Int):=by omega
       have hq0:(0:Int)≤(q:Int):=by omega
       obtain ⟨-,-,-,b',off,y,a3,l3,c3,a4,l4,c4,rfl,hSb,hx,hnd,k0,k1,k2,k3,k4,k5⟩:=H.out.at (j:=q) (by have:=HL2.out;omega)
       have hbw:=HS.out b' hSb
       have q0:=(hB.cell (p:=⟨b',off+q * 6,none⟩) hbw).trans k0
       have q1:=(hB.cell (p:=⟨b',off+q * 6+1,none⟩) hbw).trans k1
       have q2:=(hB.cell (p:=⟨b',off+q * 6+2,none⟩) hbw).trans k2
       have q3:=(hB.cell (p:=⟨b',off+q * 6+3,none⟩) hbw).trans k3
       have q4:=(hB.cell (p:=⟨b',off+q * 6+4,none⟩) hbw).trans k4
       have q5:=(hB.cell (p:=⟨b',off+q * 6+5,none⟩) hbw).trans k5
       clear k0 k1 k2 k3 k4 k5
       have bA:=hB.alloc (o:=.cells #[.int .i64 y.kind,.bool y.bool,.int .i64 y.num,.string y.text,.slice a3 l3 c3,.slice a4 l4 c4] 28) hB.size
       have cA:=six_of (Hn wr (.cells #[.int .i64 y.kind,.bool y.bool,.int .i64 y.num,.string y.text,.slice a3 l3 c3,.slice a4 l4 c4] 28))
       have W:=Hh (HI.out D S _ y (wr.alloc (.cells #[.int .i64 y.kind,.bool y.bool,.int .i64 y.num,.string y.text,.slice a3 l3 c3,.slice a4 l4 c4] 28)) (hnd.same fun b hb=>bA.block b (HS.out b hb)) (fun b hb=>Ll (HS.out b hb) bA.size) (HLL.out y (List.mem_of_getElem? hx)) (HT.out.below bA))
       have HX:=Hh hx
       have HOK:=Hh hok
       have BA:=Hh bA
       have hds:((d:Int)+1 - 1)=(d:Int):=by omega
       have hdw:IntKind.i64.wrap (d:Int)=(d:Int):=IntWalk.i64_in _ (by omega)
       clear hx hok hnd bA hB
       cases hv:validN d y with
       | true=>
        rw [hv] at W
        have HV2:=Hh hv
        clear hv
        go_wp2_with (go_at_call 108;(with_reducible refine (W.out).mono ?_);rintro e w1 ⟨rfl,hb1⟩;(have hB1:=BA.out.trans (hb1.mono BA.out.size));clear hb1)
        go_roundw
        case rel=>
         refine ⟨q+1,by go_num,by omega,fun z hz=>?_,hB1⟩
         rw [take_snocN HX.out] at hz
         rcases List.mem_append.1 hz with hz | hz
         ·exact HOK.out z hz
         ·cases List.mem_singleton.1 hz;exact HV2.out
        case measure=>simp [intOf];omega
       | false=>
        rw [hv] at W
        have HV2:=Hh hv
        clear hv
        go_wp2_with (go_at_call 108;(with_reducible refine (W.out).mono ?_);rintro e w1 ⟨rfl,hb1⟩;(have hB1:=BA.out.trans (hb1.mono BA.out.size));clear hb1)
        go_ret
        have hall:its.all (validN d)=false:=by
         cases hq:its.all (validN d) with
         | false=>rfl
         | true=>
          have:=List.all_eq_true.1 hq y (List.mem_of_getElem? HX.out)
          rw [HV2.out] at this
          cases this
        exact ⟨by rw [hall,Bool.and_false];rfl,hB1⟩
      ·have hlt2:¬ (q:Int)<(l2:Int):=by omega
       have hall:its.all (validN d)=true:=by
        rw [List.take_of_length_le (by have:=HL2.out;omega)] at hok
        exact List.all_eq_true.2 hok
       have HA:=Hh hall
       clear hok hall
       go_wp2
       go_ret
       exact ⟨by rw [HNA.out,HA.out];rfl,hB⟩
theorem rvalid_zero:RValidAt 0:=by
 intro D S cs x w h hS hl hT
 obtain ⟨a1,l1,c1,a2,l2,c2,rfl⟩:=h.slices
 clear h hS hl hT
 go_enter Tryz.func108,Tryz.ntmps108
 go_wp2
 go_ret
 exact ⟨rfl,(Br _ _).alloc (Lr _) _⟩
theorem rvalid_any:∀d,d<100→RValidAt d
 | 0,_=>rvalid_zero
 | d+1,h=>rvalid_step (rvalid_any d (by omega)) (by omega)
theorem risvalid_any {D:Nat} {S:Nat→Prop} (cs:List Value) (x:ND) (w:World) (h:NodeIn D S w cs x) (hS:∀b,S b→b<w.heap.size) (hl:lowV D x) (hT:Utab w):Calls Tryz.prog 61 #[.agg cs.toArray] w fun e w'=>e=.returned (.bool (validN 8 x))∧Below w.heap.size w w':=by
 obtain ⟨a1,l1,c1,a2,l2,c2,rfl⟩:=h.slices
 have b1:=(Br w.heap.size w).alloc (o:=.cells #[.int .i64 x.kind,.bool x.bool,.int .i64 x.num,.string x.text,.slice a1 l1 c1,.slice a2 l2 c2] 28) (Lr _)
 have V:=Hh (rvalid_any 8 (by decide) D S _ x (w.alloc (.cells #[.int .i64 x.kind,.bool x.bool,.int .i64 x.num,.string x.text,.slice a1 l1 c1,.slice a2 l2 c2] 28)) (h.same fun b hb=>b1.block b (hS b hb)) (fun b hb=>Ll (hS b hb) b1.size) hl (hT.below b1))
 rw [show ((8:Nat):Int)=8 from rfl] at V
 have HB:=Hh b1
 generalize validN 8 x=vb at V ⊢
 clear h hS hl hT b1
 go_enter Tryz.func61,Tryz.ntmps61
 go_wp2_with (go_at_call 108;(with_reducible refine (V.out).mono ?_);rintro e w2 ⟨rfl,hb2⟩)
 go_ret
 exact ⟨rfl,HB.out.trans (hb2.mono HB.out.size)⟩
end Go.Proofs.YtcklddldejejcaaGreatDoor