import Derived.Test.YtncdpanfefnjlaaGreatDoorNvw
set_option linter.unusedVariables false
set_option linter.unusedSimpArgs false
set_option maxRecDepth 100000
set_option maxHeartbeats 8000000
namespace Go.Proofs.YtncdpanfefnjlaaGreatDoor
open Go.Proofs.Tryz
open Go Go.Maps Go.ChangeShapes Go.WideShapes Go.ChangeAt Go.RowKit
theorem iN {t:Bt} (h:t ≠ ⟨#[]⟩):(t.toList == ({ data:=#[] }:Bt).toList)=false∧(t.toList != ({ data:=#[] }:Bt).toList)=true∧(t.toList == [])=false∧(t.toList != [])=true∧t.toList ≠ []:=by
 have h0:t.toList ≠ []:=fun e=>h ((JF t).2 e)
 have e0:({ data:=#[] }:Bt).toList=[]:=by rw [ByteArray.toList_eq]
 have h1:(t.toList == [])=false:=Db.2 h0;rw [e0];exact ⟨h1,by rw [bne,h1];rfl,h1,by rw [bne,h1];rfl,h0⟩
def JX (k:Int) (b:Bool) (n:Int) (t:Bt) (l1 l2:Nat):Bool:=cE k b n t l1 l2 && (aV t && (decide (l2≤256) && (!decide (k=5) || decide (l1=l2))))
theorem OQ {k:Int} {b:Bool} {n:Int} {t:Bt} {l1 l2:Nat} (h:JX k b n t l1 l2=true):l2≤256∧(k=5→l1=l2)∧(k ≠ 5→l1=0)∧l1≤256:=by
 unfold JX cE at h;simp only [Ak,Dw,Av,Bool.not_eq_true',decide_eq_false_iff_not] at h;obtain ⟨⟨-,h7⟩,-,h9,h10⟩:=h;have h5:k=5→l1=l2:=fun e=>h10.resolve_left (fun q=>q e)
 have h6:k ≠ 5→l1=0:=fun e=>h7.resolve_right e
 refine ⟨h9,h5,h6,?_⟩
 by_cases hk:k=5
 ·have:=h5 hk;omega
 ·have:=h6 hk;omega
def wN (ns:List Bt):Bool:=ns.all aV && decide ns.Nodup
theorem VX {ns:List Bt} (h1:∀s,s ∈ ns→aV s=true) (h2:ns.Nodup):wN ns=true:=by unfold wN;rw [Aw.2 h1,An h2];rfl
theorem aAp {ns:List Bt} (h2:¬ns.Nodup):wN ns=false:=by unfold wN;rw [Ap h2,Bool.and_false]
theorem aAq {ns:List Bt} {s:Bt} (h:s ∈ ns) (h2:¬aV s=true):wN ns=false:=by
 unfold wN;cases hq:ns.all aV with
 | false=>rfl
 | true=>exact absurd (Aw.1 hq s h) h2
theorem aCk (x:ND):eQ x=(JX x.kind x.bool x.num x.text x.names.length x.items.length && wN x.names):=by
 rw [TE];unfold JX iY wN
 by_cases hk:x.kind=5
 ·simp [hk,Bool.and_assoc]
 ·by_cases hl:x.names.length=0
  ·have:x.names=[]:=Au.1 hl
   simp [hk,this]
  ·have:cE x.kind x.bool x.num x.text x.names.length x.items.length=false:=by
    unfold cE;rw [Ap hl,Ap hk];simp
   rw [this];simp
theorem yN (s:Bt) (w:World) (hs:s.size≤maxLen - 2) (hT:kI w):Calls prog 91 #[.string s] w fun e w'=>e=.returned (.bool (aV s))∧Below w.heap.size w w':=by
 unfold maxLen at hs;have V:=Hh (BX s w (by unfold maxLen;omega) hT)
 by_cases h:s.size≤65536
 ·have h1:(s.size:Int)≤65536:=by omega
  have e:aV s=Lib.validD s.data.toList:=by unfold aV;rw [An h];rfl
  rw [e];clear e hT;generalize Lib.validD s.data.toList=b at V ⊢
  go_enter func91,ntmps91
  go_wp2_with (go_at_call 111;(with_reducible refine (V.o).mono ?_);rintro e w1 ⟨rfl,hb⟩)
  go_ret
  exact ⟨rfl,hb⟩
 ·have h1:¬ (s.size:Int)≤65536:=by omega
  have e:aV s=false:=by unfold aV;rw [Ap h];rfl
  rw [e];clear e hT
  go_enter func91,ntmps91
  go_wp2
  go_ret
  exact ⟨rfl,Br _ _⟩
theorem mZ:Keyed prog 9:=string_keyed underlying9
theorem BJ (w:World):(zeroValue 4).run prog w=.ok (.bool false) w:=by kernel_rfl
def tC (d:Nat):Prop:=∀ (D:Nat) (S:Nat→Prop) (cs:Vl) (x:ND) (w:World),aC D S w cs x→(∀b,S b→b<w.heap.size)→jN D x→kI w→Calls prog 58 #[.agg cs.toArray,Iz (d:Int)] w fun e w'=>e=.returned (.bool (aB d x))∧Below w.heap.size w w'
theorem JT {d:Nat} (IH:tC d) (hd:d<100):tC (d+1):=by
 intro D S cs x w h hS hl hT;obtain ⟨a1,l1,c1,a2,l2,c2,rfl⟩:=h.slices;cases D with
 | zero=>exact h.elim
 | succ D=>
 obtain ⟨vn,vi,e,ht,hns,his⟩:=h;simp only [Bq,Di,Dp] at e;obtain ⟨rfl,rfl⟩:=e;have hl1:l1=x.names.length:=by obtain ⟨_,_,e,_⟩:=id hns;cases e;rfl
 have hl2:l2=x.items.length:=by obtain ⟨_,_,e,_⟩:=id his;cases e;rfl
 have hl2b:l2≤1000000:=by rw [hl2];exact hl.1
 have hval:aB (d+1) x=(JX x.kind x.bool x.num x.text l1 l2 && wN x.names && x.items.all (aB d)):=by rw [cQ,aCk,hl1,hl2]
 have hll:=hl.2;obtain ⟨k,b,n,t,ns,its⟩:=x;simp only [ND.kind,ND.bool,ND.num,ND.text,ND.names,ND.items] at ht hns his hl1 hl2 hval hll ⊢;have hb1:=(Br w.heap.size w).alloc (o:=.cells #[Iz k,.bool b,Iz n,.string t,.slice a1 l1 c1,.slice a2 l2 c2] 28) (Lr _);have ck:=aA (Hn w (.cells #[Iz k,.bool b,Iz n,.string t,.slice a1 l1 c1,.slice a2 l2 c2] 28));have hwl:w.heap.size<(w.alloc (.cells #[Iz k,.bool b,Iz n,.string t,.slice a1 l1 c1,.slice a2 l2 c2] 28)).heap.size:=by simp
 have hdp:((d+1:Nat):Int)=(d:Int)+1:=by omega
 have hd1:¬ (d:Int)+1<1:=by omega
 rw [hval,hdp];have H:=Hh his;have HN:=Hh hns;have HS:=Hh hS;have HT:=Hh hT;have HTX:=Hh ht;have HLL:=Hh hll;have HL1:=Hh hl1;have HL2:=Hh hl2;have HI:=Hh IH;clear his hns hS hT ht hll hl1 hl2 hval hl IH hdp
 go_enter func58,ntmps58
 go_upto_region 1 with fail
 generalize w.alloc (.cells #[Iz k,.bool b,Iz n,.string t,.slice a1 l1 c1,.slice a2 l2 c2] 28)=w1 at hb1 ck hwl ⊢;have B1:=Hh hb1;have CK:=Hh ck;have WL:=Hh hwl;clear hb1 hwl
 go_cut [5] from 11 to 73 (fun v wx=>v=.bool (!cE k b n t l1 l2)∧wx=w1)
 case first=>
  rcases Int.lt_or_le k 0 with hk | hk
  ·have:decide (0≤k)=false:=Ap (by omega)
   go_wp2;go_meet;case rel=>exact ⟨by first | rfl | (refine Ad Value.bool ?_;simp [cE, *];try omega),rfl⟩
  rcases Int.lt_or_le 5 k with hk5 | hk5
  ·have:decide (k≤5)=false:=Ap (by omega)
   have hk0:¬k<0:=by omega
   go_wp2;go_meet;case rel=>exact ⟨by first | rfl | (refine Ad Value.bool ?_;simp [cE, *];try omega),rfl⟩
  obtain rfl | rfl | rfl | rfl | rfl | rfl:k=0∨k=1∨k=2∨k=3∨k=4∨k=5:=by omega
  ·rcases Bool.eq_false_or_eq_true b with rfl | rfl
   ·go_wp2;go_meet;case rel=>exact ⟨by first | rfl | (refine Ad Value.bool ?_;simp [cE, *];try omega),rfl⟩
   ·by_cases hn:n=0
    ·subst hn
     by_cases ht0:t=⟨#[]⟩
     ·subst ht0
      by_cases hz2:l2=0
      ·subst hz2
       by_cases hz1:l1=0
       ·subst hz1
        go_wp2;go_meet;case rel=>exact ⟨by first | rfl | (refine Ad Value.bool ?_;simp [cE, *];try omega),rfl⟩
       ·have hz1':(0:Int)<(l1:Int):=by omega
        go_wp2;go_meet;case rel=>exact ⟨by first | rfl | (refine Ad Value.bool ?_;simp [cE, *];try omega),rfl⟩
      ·have hz2':(0:Int)<(l2:Int):=by omega
       go_wp2;go_meet;case rel=>exact ⟨by first | rfl | (refine Ad Value.bool ?_;simp [cE, *];try omega),rfl⟩
     ·obtain ⟨ht1,ht2,ht3,ht4,ht5⟩:=iN ht0
      go_wp2;go_meet;case rel=>exact ⟨by first | rfl | (refine Ad Value.bool ?_;simp [cE, *];try omega),rfl⟩
    ·have hn1:(n != 0)=true:=by simp [hn]
     have hn2:(n == 0)=false:=by simp [hn]
     go_wp2;go_meet;case rel=>exact ⟨by first | rfl | (refine Ad Value.bool ?_;simp [cE, *];try omega),rfl⟩
  ·rcases Bool.eq_false_or_eq_true b with rfl | rfl
   ·by_cases hn:n=0
    ·subst hn
     by_cases ht0:t=⟨#[]⟩
     ·subst ht0
      by_cases hz2:l2=0
      ·subst hz2
       by_cases hz1:l1=0
       ·subst hz1
        go_wp2;go_meet;case rel=>exact ⟨by first | rfl | (refine Ad Value.bool ?_;simp [cE, *];try omega),rfl⟩
       ·have hz1':(0:Int)<(l1:Int):=by omega
        go_wp2;go_meet;case rel=>exact ⟨by first | rfl | (refine Ad Value.bool ?_;simp [cE, *];try omega),rfl⟩
      ·have hz2':(0:Int)<(l2:Int):=by omega
       go_wp2;go_meet;case rel=>exact ⟨by first | rfl | (refine Ad Value.bool ?_;simp [cE, *];try omega),rfl⟩
     ·obtain ⟨ht1,ht2,ht3,ht4,ht5⟩:=iN ht0
      go_wp2;go_meet;case rel=>exact ⟨by first | rfl | (refine Ad Value.bool ?_;simp [cE, *];try omega),rfl⟩
    ·have hn1:(n != 0)=true:=by simp [hn]
     have hn2:(n == 0)=false:=by simp [hn]
     go_wp2;go_meet;case rel=>exact ⟨by first | rfl | (refine Ad Value.bool ?_;simp [cE, *];try omega),rfl⟩
   ·by_cases hn:n=0
    ·subst hn
     by_cases ht0:t=⟨#[]⟩
     ·subst ht0
      by_cases hz2:l2=0
      ·subst hz2
       by_cases hz1:l1=0
       ·subst hz1
        go_wp2;go_meet;case rel=>exact ⟨by first | rfl | (refine Ad Value.bool ?_;simp [cE, *];try omega),rfl⟩
       ·have hz1':(0:Int)<(l1:Int):=by omega
        go_wp2;go_meet;case rel=>exact ⟨by first | rfl | (refine Ad Value.bool ?_;simp [cE, *];try omega),rfl⟩
      ·have hz2':(0:Int)<(l2:Int):=by omega
       go_wp2;go_meet;case rel=>exact ⟨by first | rfl | (refine Ad Value.bool ?_;simp [cE, *];try omega),rfl⟩
     ·obtain ⟨ht1,ht2,ht3,ht4,ht5⟩:=iN ht0
      go_wp2;go_meet;case rel=>exact ⟨by first | rfl | (refine Ad Value.bool ?_;simp [cE, *];try omega),rfl⟩
    ·have hn1:(n != 0)=true:=by simp [hn]
     have hn2:(n == 0)=false:=by simp [hn]
     go_wp2;go_meet;case rel=>exact ⟨by first | rfl | (refine Ad Value.bool ?_;simp [cE, *];try omega),rfl⟩
  ·rcases Bool.eq_false_or_eq_true b with rfl | rfl
   ·go_wp2;go_meet;case rel=>exact ⟨by first | rfl | (refine Ad Value.bool ?_;simp [cE, *];try omega),rfl⟩
   ·by_cases hn:n=0
    ·subst hn
     by_cases ht0:t=⟨#[]⟩
     ·subst ht0
      by_cases hz2:l2=0
      ·subst hz2
       by_cases hz1:l1=0
       ·subst hz1
        go_wp2;go_meet;case rel=>exact ⟨by first | rfl | (refine Ad Value.bool ?_;simp [cE, *];try omega),rfl⟩
       ·have hz1':(0:Int)<(l1:Int):=by omega
        go_wp2;go_meet;case rel=>exact ⟨by first | rfl | (refine Ad Value.bool ?_;simp [cE, *];try omega),rfl⟩
      ·have hz2':(0:Int)<(l2:Int):=by omega
       go_wp2;go_meet;case rel=>exact ⟨by first | rfl | (refine Ad Value.bool ?_;simp [cE, *];try omega),rfl⟩
     ·obtain ⟨ht1,ht2,ht3,ht4,ht5⟩:=iN ht0
      go_wp2;go_meet;case rel=>exact ⟨by first | rfl | (refine Ad Value.bool ?_;simp [cE, *];try omega),rfl⟩
    ·have hn1:(n != 0)=true:=by simp [hn]
     have hn2:(n == 0)=false:=by simp [hn]
     by_cases ht0:t=⟨#[]⟩
     ·subst ht0
      by_cases hz2:l2=0
      ·subst hz2
       by_cases hz1:l1=0
       ·subst hz1
        go_wp2;go_meet;case rel=>exact ⟨by first | rfl | (refine Ad Value.bool ?_;simp [cE, *];try omega),rfl⟩
       ·have hz1':(0:Int)<(l1:Int):=by omega
        go_wp2;go_meet;case rel=>exact ⟨by first | rfl | (refine Ad Value.bool ?_;simp [cE, *];try omega),rfl⟩
      ·have hz2':(0:Int)<(l2:Int):=by omega
       go_wp2;go_meet;case rel=>exact ⟨by first | rfl | (refine Ad Value.bool ?_;simp [cE, *];try omega),rfl⟩
     ·obtain ⟨ht1,ht2,ht3,ht4,ht5⟩:=iN ht0
      go_wp2;go_meet;case rel=>exact ⟨by first | rfl | (refine Ad Value.bool ?_;simp [cE, *];try omega),rfl⟩
  ·rcases Bool.eq_false_or_eq_true b with rfl | rfl
   ·go_wp2;go_meet;case rel=>exact ⟨by first | rfl | (refine Ad Value.bool ?_;simp [cE, *];try omega),rfl⟩
   ·by_cases hn:n=0
    ·subst hn
     by_cases ht0:t=⟨#[]⟩
     ·subst ht0
      by_cases hz2:l2=0
      ·subst hz2
       by_cases hz1:l1=0
       ·subst hz1
        go_wp2;go_meet;case rel=>exact ⟨by first | rfl | (refine Ad Value.bool ?_;simp [cE, *];try omega),rfl⟩
       ·have hz1':(0:Int)<(l1:Int):=by omega
        go_wp2;go_meet;case rel=>exact ⟨by first | rfl | (refine Ad Value.bool ?_;simp [cE, *];try omega),rfl⟩
      ·have hz2':(0:Int)<(l2:Int):=by omega
       go_wp2;go_meet;case rel=>exact ⟨by first | rfl | (refine Ad Value.bool ?_;simp [cE, *];try omega),rfl⟩
     ·obtain ⟨ht1,ht2,ht3,ht4,ht5⟩:=iN ht0
      by_cases hz2:l2=0
      ·subst hz2
       by_cases hz1:l1=0
       ·subst hz1
        go_wp2;go_meet;case rel=>exact ⟨by first | rfl | (refine Ad Value.bool ?_;simp [cE, *];try omega),rfl⟩
       ·have hz1':(0:Int)<(l1:Int):=by omega
        go_wp2;go_meet;case rel=>exact ⟨by first | rfl | (refine Ad Value.bool ?_;simp [cE, *];try omega),rfl⟩
      ·have hz2':(0:Int)<(l2:Int):=by omega
       go_wp2;go_meet;case rel=>exact ⟨by first | rfl | (refine Ad Value.bool ?_;simp [cE, *];try omega),rfl⟩
    ·have hn1:(n != 0)=true:=by simp [hn]
     have hn2:(n == 0)=false:=by simp [hn]
     go_wp2;go_meet;case rel=>exact ⟨by first | rfl | (refine Ad Value.bool ?_;simp [cE, *];try omega),rfl⟩
  ·rcases Bool.eq_false_or_eq_true b with rfl | rfl
   ·go_wp2;go_meet;case rel=>exact ⟨by first | rfl | (refine Ad Value.bool ?_;simp [cE, *];try omega),rfl⟩
   ·by_cases hn:n=0
    ·subst hn
     by_cases ht0:t=⟨#[]⟩
     ·subst ht0
      by_cases hz2:l2=0
      ·subst hz2
       by_cases hz1:l1=0
       ·subst hz1
        go_wp2;go_meet;case rel=>exact ⟨by first | rfl | (refine Ad Value.bool ?_;simp [cE, *];try omega),rfl⟩
       ·have hz1':(0:Int)<(l1:Int):=by omega
        go_wp2;go_meet;case rel=>exact ⟨by first | rfl | (refine Ad Value.bool ?_;simp [cE, *];try omega),rfl⟩
      ·have hz2':(0:Int)<(l2:Int):=by omega
       by_cases hz1:l1=0
       ·subst hz1
        go_wp2;go_meet;case rel=>exact ⟨by first | rfl | (refine Ad Value.bool ?_;simp [cE, *];try omega),rfl⟩
       ·have hz1':(0:Int)<(l1:Int):=by omega
        go_wp2;go_meet;case rel=>exact ⟨by first | rfl | (refine Ad Value.bool ?_;simp [cE, *];try omega),rfl⟩
     ·obtain ⟨ht1,ht2,ht3,ht4,ht5⟩:=iN ht0
      go_wp2;go_meet;case rel=>exact ⟨by first | rfl | (refine Ad Value.bool ?_;simp [cE, *];try omega),rfl⟩
    ·have hn1:(n != 0)=true:=by simp [hn]
     have hn2:(n == 0)=false:=by simp [hn]
     go_wp2;go_meet;case rel=>exact ⟨by first | rfl | (refine Ad Value.bool ?_;simp [cE, *];try omega),rfl⟩
  ·rcases Bool.eq_false_or_eq_true b with rfl | rfl
   ·go_wp2;go_meet;case rel=>exact ⟨by first | rfl | (refine Ad Value.bool ?_;simp [cE, *];try omega),rfl⟩
   ·by_cases hn:n=0
    ·subst hn
     by_cases ht0:t=⟨#[]⟩
     ·subst ht0
      by_cases hz2:l2=0
      ·subst hz2
       by_cases hz1:l1=0
       ·subst hz1
        go_wp2;go_meet;case rel=>exact ⟨by first | rfl | (refine Ad Value.bool ?_;simp [cE, *];try omega),rfl⟩
       ·have hz1':(0:Int)<(l1:Int):=by omega
        go_wp2;go_meet;case rel=>exact ⟨by first | rfl | (refine Ad Value.bool ?_;simp [cE, *];try omega),rfl⟩
      ·have hz2':(0:Int)<(l2:Int):=by omega
       by_cases hz1:l1=0
       ·subst hz1
        go_wp2;go_meet;case rel=>exact ⟨by first | rfl | (refine Ad Value.bool ?_;simp [cE, *];try omega),rfl⟩
       ·have hz1':(0:Int)<(l1:Int):=by omega
        go_wp2;go_meet;case rel=>exact ⟨by first | rfl | (refine Ad Value.bool ?_;simp [cE, *];try omega),rfl⟩
     ·obtain ⟨ht1,ht2,ht3,ht4,ht5⟩:=iN ht0
      go_wp2;go_meet;case rel=>exact ⟨by first | rfl | (refine Ad Value.bool ?_;simp [cE, *];try omega),rfl⟩
    ·have hn1:(n != 0)=true:=by simp [hn]
     have hn2:(n == 0)=false:=by simp [hn]
     go_wp2;go_meet;case rel=>exact ⟨by first | rfl | (refine Ad Value.bool ?_;simp [cE, *];try omega),rfl⟩
 case rest=>
  obtain ⟨rfl,rfl⟩:=hcut;obtain ⟨bO,hbO⟩:∃q,q=cE k b n t l1 l2:=⟨_,rfl⟩;rw [←hbO];have HT1:=Hh (HT.o.below B1.o);obtain ⟨bP,hbP⟩:∃q,q=JX k b n t l1 l2:=⟨_,rfl⟩;have HBO:=Hh hbO;have HBP:=Hh hbP;clear hbO hbP
  go_upto_region 2 with fail
  go_cut [100] from 74 to 99 (fun v wx=>v=.bool (!bP)∧Below wc.heap.size wc wx)
  case first=>
   have TX:=Hh (yN t wc HTX.o HT1.o);have FK:=Hh (fun (wx:World) (hb:Below wc.heap.size wc wx)=>(show wx.cell? ⟨w.heap.size,0,none⟩=some (Iz k)∧wx.cell? ⟨w.heap.size,4,none⟩=some (.slice a1 l1 c1)∧wx.cell? ⟨w.heap.size,5,none⟩=some (.slice a2 l2 c2) from ⟨(hb.cell (p:=⟨w.heap.size,0,none⟩) WL.o).trans CK.o.1,(hb.cell (p:=⟨w.heap.size,4,none⟩) WL.o).trans CK.o.2.2.2.2.1,(hb.cell (p:=⟨w.heap.size,5,none⟩) WL.o).trans CK.o.2.2.2.2.2⟩))
   have HP:Hid (bP=(bO && (aV t && (decide (l2≤256) && (!decide (k=5) || decide (l1=l2)))))):=Hh (by rw [HBP.o,HBO.o];rfl)
   generalize aV t=bT at TX HP;cases bO with
   | false=>
    go_wp2;go_meet
    case rel=>exact ⟨by rw [HP.o];rfl,Br _ _⟩
   | true=>
   cases bT with
   | false=>
    go_wp2_with (go_at_call 91;(with_reducible refine (TX.o).mono ?_);rintro e w3 ⟨rfl,hb3⟩)
    go_meet
    case rel=>exact ⟨by rw [HP.o];rfl,hb3⟩
   | true=>
   by_cases h256:l2≤256
   ·have h256':¬ (256:Int)<(l2:Int):=by omega
    by_cases hk5:k=5
    ·subst hk5
     by_cases h12:l1=l2
     ·have h12':((l1:Int) != (l2:Int))=false:=by simp [h12]
      have e12:decide (l1=l2)=true:=An h12;clear h12
      go_wp2_with (go_at_call 91;(with_reducible refine (TX.o).mono ?_);rintro e w3 ⟨rfl,hb3⟩;(have fk:=FK.o w3 hb3);clear ck)
      go_meet
      case rel=>exact ⟨by rw [HP.o,e12,An h256];exact Ad Value.bool (Ap (by omega)),hb3⟩
     ·have h12':((l1:Int) != (l2:Int))=true:=by simp;omega
      go_wp2_with (go_at_call 91;(with_reducible refine (TX.o).mono ?_);rintro e w3 ⟨rfl,hb3⟩;(have fk:=FK.o w3 hb3);clear ck)
      go_meet
      case rel=>exact ⟨by rw [HP.o,Ap h12,An h256];rfl,hb3⟩
    ·have hk5':(k == 5)=false:=by simp [hk5]
     go_wp2_with (go_at_call 91;(with_reducible refine (TX.o).mono ?_);rintro e w3 ⟨rfl,hb3⟩;(have fk:=FK.o w3 hb3);clear ck)
     go_meet
     case rel=>exact ⟨by rw [HP.o,An h256,Ap hk5];exact Ad Value.bool (Ap (by omega)),hb3⟩
   ·have h256':(256:Int)<(l2:Int):=by omega
    go_wp2_with (go_at_call 91;(with_reducible refine (TX.o).mono ?_);rintro e w3 ⟨rfl,hb3⟩;(have fk:=FK.o w3 hb3);clear ck)
    go_meet
    case rel=>exact ⟨by rw [HP.o,Ap h256];rfl,hb3⟩
  case rest=>
   obtain ⟨rfl,hB2⟩:=hcut;obtain ⟨w3,hw3⟩:∃w3,w3=wc:=⟨_,rfl⟩;cases hbp:bP with
   | false=>
    go_wp2
    go_ret
    exact ⟨by rw [←HBP.o,hbp];rfl,B1.o.trans (hB2.mono B1.o.size)⟩
   | true=>
   obtain ⟨p1,-,-,p2⟩:=OQ (HBP.o.symm.trans hbp);have hB:=B1.o.trans (hB2.mono B1.o.size);have ck3:wc.cell? ⟨w.heap.size,4,none⟩=some (.slice a1 l1 c1)∧wc.cell? ⟨w.heap.size,5,none⟩=some (.slice a2 l2 c2):=⟨(hB2.cell (p:=⟨w.heap.size,4,none⟩) WL.o).trans CK.o.2.2.2.2.1,(hB2.cell (p:=⟨w.heap.size,5,none⟩) WL.o).trans CK.o.2.2.2.2.2⟩;have hwl3:w.heap.size<wc.heap.size:=Ll WL.o hB2.size;have HV1:Hid (JX k b n t l1 l2=true):=Hh (HBP.o.symm.trans hbp);have WL3:=Hh hwl3;clear ck CK hB2 hbp HT1 HBO WL hwl3;have hmm:=@run_makeMap prog;have HSET:=Hh (dC.made wc prog 9 4);have bM:=hB.alloc (o:=.map #[] 0) hB.size;have BM:=Hh bM;have CK3:Hid ((wc.alloc (.map #[] 0)).cell? ⟨w.heap.size,4,none⟩=some (.slice a1 l1 c1)∧(wc.alloc (.map #[] 0)).cell? ⟨w.heap.size,5,none⟩=some (.slice a2 l2 c2)):=Hh ⟨(((Br wc.heap.size wc).alloc (Lr _) _).cell (p:=⟨w.heap.size,4,none⟩) WL3.o).trans ck3.1,(((Br wc.heap.size wc).alloc (Lr _) _).cell (p:=⟨w.heap.size,5,none⟩) WL3.o).trans ck3.2⟩;have BW:=Hh hB;have hgs:w.heap.size≤wc.heap.size:=hB.size;clear bM hB ck3 HBP hw3 w3
   go_upto_region 5 with fail
   generalize wc.alloc (.map #[] 0)=w4 at BM CK3 HSET ⊢;have ck4:=CK3.o
   go_upto_region 6 with fail
   clear ck4
   go_loopw [105] (fun i wr=>∃j:Nat,i=Iz j∧j≤l1∧dC prog 9 4 wr wc.heap.size (ns.take j).reverse∧(∀s,s ∈ ns.take j→aV s=true)∧(ns.take j).Nodup∧Below w.heap.size w wr∧wr.cell? ⟨w.heap.size,5,none⟩=some (.slice a2 l2 c2)) (fun i _=>l1 - (intOf i).toNat)
   case atStart=>exact ⟨0,rfl,Ax _,HSET.o,(fun s h=>by simp at h),by simp,BM.o,CK3.o.2⟩
   case round=>
    obtain ⟨j,rfl,hj,hset,hok,hnd,hB,hc5⟩:=hrel;clear HSET BM CK3
    by_cases hlt:j<l1
    ·have hlt':(j:Int)<(l1:Int):=by omega
     have hj0:(0:Int)≤(j:Int):=by omega
     have hjn:j<ns.length:=by have:=HL1.o;omega
     obtain ⟨-,-,-,bb,off,rfl,hSb,hc,hs⟩:=HN.o.at hjn;have hcw:=(hB.cell (p:=⟨bb,off+j,none⟩) (HS.o bb hSb)).trans hc;obtain ⟨s,hse⟩:∃s,s=ns[j]:=⟨_,rfl⟩;rw [←hse] at hc hs hcw;have hsj:ns[j]?=some s:=by rw [Ac hjn,hse]
     have htk:ns.take (j+1)=ns.take j++[s]:=by rw [Bf,hsj];rfl
     have V:=Hh (yN s wr hs (HT.o.below hB));have hkey:=Cj (P:=prog) (k:=9) (s:=s) underlying9 (by unfold maxLen at hs ⊢;omega)
     have HTK:=Hh htk;have HSJ:=Hh hsj;have HOK:=Hh hok;have HND:=Hh hnd;have HST:=Hh hset;clear hc hs hse hsj htk hok hnd hset
     by_cases hto:aV s=true
     ·rw [hto] at V
      by_cases hin:s ∈ ns.take j
      ·have hnn:wN ns=false:=by
        refine aAp fun hn=>?_
        rw [List.nodup_iff_pairwise_ne,List.pairwise_iff_getElem] at hn;obtain ⟨q,hq,e⟩:=List.getElem_of_mem hin;rw [Ba] at hq;rw [List.getElem_take] at e;refine hn q j (by omega) hjn (by omega) ?_
        rw [e];have:=HSJ.o;rw [Ac hjn] at this;exact (Ab this).symm
       have HNN:=Hh hnn;have L:=fun wx (h:dC prog 9 4 wx wc.heap.size (ns.take j).reverse)=>h.look (t:=127) mZ underlying127 underlying4 (BJ wx) s hkey
       rw [(pJ s _).2 (List.mem_reverse.2 hin)] at L;have LL:=Hh L;clear L hnn hin hkey
       go_wp2_with (go_at_call 91;(with_reducible refine (V.o).mono ?_);rintro e w1 ⟨rfl,hb1⟩;(have hlook:=LL.o w1 (HST.o.below hb1));(have hB1:=hB.trans (hb1.mono hB.size));clear hb1 hB)
       go_ret
       exact ⟨by rw [HNN.o,Bool.and_false,Bool.false_and];rfl,hB1⟩
      ·have L:=fun wx (h:dC prog 9 4 wx wc.heap.size (ns.take j).reverse)=>h.look (t:=127) mZ underlying127 underlying4 (BJ wx) s hkey
       have hinB:inB s (ns.take j).reverse=false:=by
        cases hq:inB s (ns.take j).reverse with
        | false=>rfl
        | true=>exact absurd (List.mem_reverse.1 ((pJ s _).1 hq)) hin
       rw [hinB] at L;have LL:=Hh L;have HIN:=Hh hin;have HKEY:=Hh hkey;have hlr:(ns.take j).reverse.length<1000000:=by rw [List.length_reverse,Ba];omega
       have HTO:=Hh hto;have hgn:w.heap.size ≠ wc.heap.size:=by have:=WL3.o;omega
       clear L hin hkey hinB hto
       go_wp2_with (first
        | (go_at_call 91;(with_reducible refine (V.o).mono ?_);rintro e w1 ⟨rfl,hb1⟩;(have hlook:=LL.o w1 (HST.o.below hb1));(have hB1:=hB.trans (hb1.mono hB.size));(have hset1:=HST.o.below hb1);(have hc51:=(hb1.cell (p:=⟨w.heap.size,5,none⟩) (Ll WL3.o (Bo HST.o.lt))).trans hc5);clear hb1 hB)
        | (at_mapUpdate;refine Dk _ rfl _ _ _ 127 rfl 9 4 mZ underlying127 _ wc.heap.size (ns.take j).reverse.length _ rfl hset1 (by unfold maxLen;omega) _ _ _ rfl rfl HKEY.o _ [] (plainElem_bool underlying4 true) ?_;intro w2 hown2 hgrow2))
       have hset2:dC prog 9 4 w2 wc.heap.size (s::(ns.take j).reverse):=dC.put hown2;have hB2:=fU hB1 hgrow2 hB1.size (by omega)
       have hc52:w2.cell? ⟨w.heap.size,5,none⟩=some (.slice a2 l2 c2):=(iR (hgrow2.block w.heap.size (Ll WL3.o (Bo hset1.lt)) (fun e=>hgn (Ab e)))).trans hc51
       clear hown2 hgrow2 hB1 hset1 hlook hc51 hc5
       go_wp2
       go_roundw
       case rel=>
        refine ⟨j+1,by go_num,by omega,?_,?_,?_,hB2,hc52⟩
        ·rw [HTK.o,List.reverse_append];exact hset2
        ·intro y hy
         rw [HTK.o] at hy;rcases Bb.1 hy with hy | hy
         ·exact HOK.o y hy
         ·cases At.1 hy;exact HTO.o
        ·rw [HTK.o,List.nodup_append]
         refine ⟨HND.o,by simp,fun a ha b hb=>?_⟩
         cases At.1 hb;intro e;subst e;exact HIN.o ha
       case measure=>simp [intOf];omega
     ·have hnn:wN ns=false:=aAq (Aq HSJ.o) hto
      have HNN:=Hh hnn;have hto':aV s=false:=by simpa using hto
      rw [hto'] at V;clear hnn hto hto' hkey
      go_wp2_with (go_at_call 91;(with_reducible refine (V.o).mono ?_);rintro e w1 ⟨rfl,hb1⟩;(have hB1:=hB.trans (hb1.mono hB.size));clear hb1 hB)
      go_ret
      exact ⟨by rw [HNN.o,Bool.and_false,Bool.false_and];rfl,hB1⟩
    ·have hlt':¬ (j:Int)<(l1:Int):=by omega
     have hjl:ns.take j=ns:=Ao (by have:=HL1.o;omega)
     rw [hjl] at hok hnd;have HNA:Hid ((JX k b n t l1 l2 && wN ns)=true):=Hh (by rw [HV1.o,VX hok hnd];rfl)
     clear hjl hset hok hnd hj hlt
     go_upto_region 13 with fail
     have HB:=Hh hB;have HC5:=Hh hc5;clear hB hc5
     go_loopw [123] (fun i wr=>∃j:Nat,i=Iz j∧j≤l2∧(∀y,y ∈ its.take j→aB d y=true)∧Below w.heap.size w wr) (fun i _=>l2 - (intOf i).toNat)
     case atStart=>exact ⟨0,rfl,Ax _,(fun y hy=>by simp at hy),HB.o⟩
     case round=>
      clear HB;obtain ⟨q,rfl,hq,hok,hB⟩:=hrel
      by_cases hlt:q<l2
      ·have hlt2:(q:Int)<(l2:Int):=by omega
       have hq0:(0:Int)≤(q:Int):=by omega
       obtain ⟨-,-,-,b',off,y,a3,l3,c3,a4,l4,c4,rfl,hSb,hx,hnd,k0,k1,k2,k3,k4,k5⟩:=H.o.at (j:=q) (by have:=HL2.o;omega)
       have hbw:=HS.o b' hSb;have q0:=(hB.cell (p:=⟨b',off+q * 6,none⟩) hbw).trans k0;have q1:=(hB.cell (p:=⟨b',off+q * 6+1,none⟩) hbw).trans k1;have q2:=(hB.cell (p:=⟨b',off+q * 6+2,none⟩) hbw).trans k2;have q3:=(hB.cell (p:=⟨b',off+q * 6+3,none⟩) hbw).trans k3;have q4:=(hB.cell (p:=⟨b',off+q * 6+4,none⟩) hbw).trans k4;have q5:=(hB.cell (p:=⟨b',off+q * 6+5,none⟩) hbw).trans k5;clear k0 k1 k2 k3 k4 k5;have bA:=hB.alloc (o:=.cells (Na y a3 l3 c3 a4 l4 c4) 28) hB.size;have cA:=aA (Hn wr (.cells (Na y a3 l3 c3 a4 l4 c4) 28));have W:=Hh (HI.o D S _ y (wr.alloc (.cells (Na y a3 l3 c3 a4 l4 c4) 28)) (hnd.same fun b hb=>bA.block b (HS.o b hb)) (fun b hb=>Ll (HS.o b hb) bA.size) (HLL.o y (Aq hx)) (HT.o.below bA))
       have HX:=Hh hx;have HOK:=Hh hok;have BA:=Hh bA;have hds:((d:Int)+1 - 1)=(d:Int):=by omega
       have hdw:IntKind.i64.wrap (d:Int)=(d:Int):=Cd _ (by omega)
       clear hx hok hnd bA hB;cases hv:aB d y with
       | true=>
        rw [hv] at W;have HV2:=Hh hv;clear hv
        go_wp2_with (go_at_call 58;(with_reducible refine (W.o).mono ?_);rintro e w1 ⟨rfl,hb1⟩;(have hB1:=BA.o.trans (hb1.mono BA.o.size));clear hb1)
        go_roundw
        case rel=>
         refine ⟨q+1,by go_num,by omega,fun z hz=>?_,hB1⟩
         rw [mS HX.o] at hz;rcases Bb.1 hz with hz | hz
         ·exact HOK.o z hz
         ·cases At.1 hz;exact HV2.o
        case measure=>simp [intOf];omega
       | false=>
        rw [hv] at W;have HV2:=Hh hv;clear hv
        go_wp2_with (go_at_call 58;(with_reducible refine (W.o).mono ?_);rintro e w1 ⟨rfl,hb1⟩;(have hB1:=BA.o.trans (hb1.mono BA.o.size));clear hb1)
        go_ret
        have hall:its.all (aB d)=false:=by
         cases hq:its.all (aB d) with
         | false=>rfl
         | true=>
          have:=Aw.1 hq y (Aq HX.o);rw [HV2.o] at this;cases this
        exact ⟨by rw [hall,Bool.and_false];rfl,hB1⟩
      ·have hlt2:¬ (q:Int)<(l2:Int):=by omega
       have hall:its.all (aB d)=true:=by
        rw [Ao (by have:=HL2.o;omega)] at hok
        exact Aw.2 hok
       have HA:=Hh hall;clear hok hall
       go_wp2
       go_ret
       exact ⟨by rw [HNA.o,HA.o];rfl,hB⟩
theorem JS:tC 0:=by
 intro D S cs x w h hS hl hT;obtain ⟨a1,l1,c1,a2,l2,c2,rfl⟩:=h.slices;clear h hS hl hT
 go_enter func58,ntmps58
 go_wp2
 go_ret
 exact ⟨rfl,(Br _ _).alloc (Lr _) _⟩
theorem yJ:∀d,d<100→tC d
 | 0,_=>JS
 | d+1,h=>JT (yJ d (by omega)) (by omega)
theorem rY {D:Nat} {S:Nat→Prop} (cs:Vl) (x:ND) (w:World) (h:aC D S w cs x) (hS:∀b,S b→b<w.heap.size) (hl:jN D x) (hT:kI w):Calls prog 32 #[.agg cs.toArray] w fun e w'=>e=.returned (.bool (aB 8 x))∧Below w.heap.size w w':=by
 obtain ⟨a1,l1,c1,a2,l2,c2,rfl⟩:=h.slices;have b1:=(Br w.heap.size w).alloc (o:=.cells (Na x a1 l1 c1 a2 l2 c2) 28) (Lr _);have V:=Hh (yJ 8 (by decide) D S _ x (w.alloc (.cells (Na x a1 l1 c1 a2 l2 c2) 28)) (h.same fun b hb=>b1.block b (hS b hb)) (fun b hb=>Ll (hS b hb) b1.size) hl (hT.below b1))
 rw [show ((8:Nat):Int)=8 from rfl] at V
 have HB:=Hh b1;generalize aB 8 x=vb at V ⊢;clear h hS hl hT b1
 go_enter func32,ntmps32
 go_wp2_with (go_at_call 58;(with_reducible refine (V.o).mono ?_);rintro e w2 ⟨rfl,hb2⟩)
 go_ret
 exact ⟨rfl,HB.o.trans (hb2.mono HB.o.size)⟩
end Go.Proofs.YtncdpanfefnjlaaGreatDoor