import Derived.Test.YtncdpanfefnjlaaGreatDoorNvw
set_option linter.unusedVariables false
set_option linter.unusedSimpArgs false
set_option maxRecDepth 100000
set_option maxHeartbeats 8000000
namespace Go.Proofs.YtncdpanfefnjlaaGreatDoor
open Go.Proofs.Tryz
open Go Go.Maps Go.ChangeShapes Go.WideShapes Go.ChangeAt Go.RowKit
theorem iV {t:Bt} (h:t ≠ ⟨#[]⟩):(t.toList == ({ data:=#[] }:Bt).toList)=false∧(t.toList != ({ data:=#[] }:Bt).toList)=true∧(t.toList == [])=false∧(t.toList != [])=true∧t.toList ≠ []:=by
 have b:t.toList ≠ []:=fun e=>h ((KY t).2 e)
 have c:({ data:=#[] }:Bt).toList=[]:=by rw [ByteArray.toList_eq]
 have a:(t.toList == [])=false:=Bm.2 b;rw [c];exact ⟨a,by rw [bne,a];rfl,a,by rw [bne,a];rfl,b⟩
def LV (k:Int) (b:Bool) (n:Int) (t:Bt) (c a:Nat):Bool:=cL k b n t c a && (aZ t && (decide (a≤256) && (!decide (k=5) || decide (c=a))))
theorem QM {k:Int} {b:Bool} {n:Int} {t:Bt} {a c:Nat} (h:LV k b n t a c=true):c≤256∧(k=5→a=c)∧(k ≠ 5→a=0)∧a≤256:=by
 unfold LV cL at h;simp only [An,Ee,As,Bool.not_eq_true',decide_eq_false_iff_not] at h;obtain ⟨⟨-,j⟩,-,l,d⟩:=h;have f:k=5→a=c:=fun e=>d.resolve_left (fun q=>q e)
 have g:k ≠ 5→a=0:=fun e=>j.resolve_right e
 refine ⟨l,f,g,?_⟩
 by_cases i:k=5
 ·have:=f i;omega
 ·have:=g i;omega
def xS (ns:List Bt):Bool:=ns.all aZ && decide ns.Nodup
theorem XU {ns:List Bt} (a:∀s,s ∈ ns→aZ s=true) (b:ns.Nodup):xS ns=true:=by unfold xS;rw [Ax.2 a,Ap b];rfl
theorem aCh {ns:List Bt} (a:¬ns.Nodup):xS ns=false:=by unfold xS;rw [Ar a,Bool.and_false]
theorem aCi {ns:List Bt} {s:Bt} (h:s ∈ ns) (a:¬aZ s=true):xS ns=false:=by
 unfold xS;cases hq:ns.all aZ with
 | false=>rfl
 | true=>exact absurd (Ax.1 hq s h) a
theorem aEa (x:ND):fC x=(LV x.kind x.bool x.num x.text x.names.length x.items.length && xS x.names):=by
 rw [UV];unfold LV jI xS
 by_cases a:x.kind=5
 ·simp [a,Bool.and_assoc]
 ·by_cases b:x.names.length=0
  ·have:x.names=[]:=Aw.1 b
   simp [a,this]
  ·have:cL x.kind x.bool x.num x.text x.names.length x.items.length=false:=by
    unfold cL;rw [Ar b,Ar a];simp
   rw [this];simp
theorem zX (s:Bt) (w:World) (f:s.size≤maxLen - 2) (a:jR w):Calls prog 91 #[.string s] w fun e w'=>e=.returned (.bool (aZ s))∧Below w.heap.size w w':=by
 unfold maxLen at f;have V:=Hh (DW s w (by unfold maxLen;omega) a)
 by_cases h:s.size≤65536
 ·have d:(s.size:Int)≤65536:=by omega
  have e:aZ s=Lib.validD s.data.toList:=by unfold aZ;rw [Ap h];rfl
  rw [e];clear e a;generalize Lib.validD s.data.toList=b at V ⊢
  go_enter func91,ntmps91
  go_wp2_with (go_at_call 111;(with_reducible refine (V.o).mono ?_);rintro e g ⟨rfl,c⟩)
  go_ret
  exact ⟨rfl,c⟩
 ·have d:¬ (s.size:Int)≤65536:=by omega
  have e:aZ s=false:=by unfold aZ;rw [Ar h];rfl
  rw [e];clear e a
  go_enter func91,ntmps91
  go_wp2
  go_ret
  exact ⟨rfl,Br _ _⟩
theorem nO:Keyed prog 9:=string_keyed underlying9
theorem DL (w:World):(zeroValue 4).run prog w=.ok (.bool false) w:=by kernel_rfl
def uF (d:Nat):Prop:=∀ (D:Nat) (S:Nat→Prop) (a:Vl) (x:ND) (w:World),aD D S w a x→(∀b,S b→b<w.heap.size)→iM D x→jR w→Calls prog 58 #[.agg a.toArray,Iz (d:Int)] w fun e w'=>e=.returned (.bool (aC d x))∧Below w.heap.size w w'
theorem LQ {d:Nat} (IH:uF d) (hd:d<100):uF (d+1):=by
 intro D S cs x w h hS hl hT;obtain ⟨a1,g,c1,a2,c,c2,rfl⟩:=h.slices;cases D with
 | zero=>exact h.elim
 | succ D=>
 obtain ⟨vn,vi,e,ht,xt,xv⟩:=h;simp only [Bu,Dd,Dj] at e;obtain ⟨rfl,rfl⟩:=e;have xu:g=x.names.length:=by obtain ⟨_,_,e,_⟩:=id xt;cases e;rfl
 have xj:c=x.items.length:=by obtain ⟨_,_,e,_⟩:=id xv;cases e;rfl
 have zb:c≤1000000:=by rw [xj];exact hl.1
 have hval:aC (d+1) x=(LV x.kind x.bool x.num x.text g c && xS x.names && x.items.all (aC d)):=by rw [cV,aEa,xu,xj]
 have x6:=hl.2;obtain ⟨k,b,n,t,ns,its⟩:=x;simp only [ND.kind,ND.bool,ND.num,ND.text,ND.names,ND.items] at ht xt xv xu xj hval x6 ⊢;have l:=(Br w.heap.size w).alloc (o:=.cells #[Iz k,.bool b,Iz n,.string t,.slice a1 g c1,.slice a2 c c2] 28) (Lr _);have ck:=aA (Hn w (.cells #[Iz k,.bool b,Iz n,.string t,.slice a1 g c1,.slice a2 c c2] 28));have yc:w.heap.size<(w.alloc (.cells #[Iz k,.bool b,Iz n,.string t,.slice a1 g c1,.slice a2 c c2] 28)).heap.size:=by simp
 have yw:((d+1:Nat):Int)=(d:Int)+1:=by omega
 have zk:¬ (d:Int)+1<1:=by omega
 rw [hval,yw];have H:=Hh xv;have HN:=Hh xt;have HS:=Hh hS;have HT:=Hh hT;have y2:=Hh ht;have yz:=Hh x6;have yp:=Hh xu;have ym:=Hh xj;have HI:=Hh IH;clear xv xt hS hT ht x6 xu xj hval hl IH yw
 go_enter func58,ntmps58
 go_upto_region 1 with fail
 generalize w.alloc (.cells #[Iz k,.bool b,Iz n,.string t,.slice a1 g c1,.slice a2 c c2] 28)=w1 at l ck yc ⊢;have B1:=Hh l;have CK:=Hh ck;have WL:=Hh yc;clear l yc
 go_cut [5] from 11 to 73 (fun v Z=>v=.bool (!cL k b n t g c)∧Z=w1)
 case first=>
  rcases Int.lt_or_le k 0 with hk | hk
  ·have:decide (0≤k)=false:=Ar (by omega)
   go_wp2;go_meet;case rel=>exact ⟨by first | rfl | (refine Ad Value.bool ?_;simp [cL, *];try omega),rfl⟩
  rcases Int.lt_or_le 5 k with xm | xm
  ·have:decide (k≤5)=false:=Ar (by omega)
   have zg:¬k<0:=by omega
   go_wp2;go_meet;case rel=>exact ⟨by first | rfl | (refine Ad Value.bool ?_;simp [cL, *];try omega),rfl⟩
  obtain rfl | rfl | rfl | rfl | rfl | rfl:k=0∨k=1∨k=2∨k=3∨k=4∨k=5:=by omega
  ·rcases Bool.eq_false_or_eq_true b with rfl | rfl
   ·go_wp2;go_meet;case rel=>exact ⟨by first | rfl | (refine Ad Value.bool ?_;simp [cL, *];try omega),rfl⟩
   ·by_cases A:n=0
    ·subst A
     by_cases f:t=⟨#[]⟩
     ·subst f
      by_cases r:c=0
      ·subst r
       by_cases m:g=0
       ·subst m
        go_wp2;go_meet;case rel=>exact ⟨by first | rfl | (refine Ad Value.bool ?_;simp [cL, *];try omega),rfl⟩
       ·have u:(0:Int)<(g:Int):=by omega
        go_wp2;go_meet;case rel=>exact ⟨by first | rfl | (refine Ad Value.bool ?_;simp [cL, *];try omega),rfl⟩
      ·have E:(0:Int)<(c:Int):=by omega
       go_wp2;go_meet;case rel=>exact ⟨by first | rfl | (refine Ad Value.bool ?_;simp [cL, *];try omega),rfl⟩
     ·obtain ⟨Q,O,U,X,T⟩:=iV f
      go_wp2;go_meet;case rel=>exact ⟨by first | rfl | (refine Ad Value.bool ?_;simp [cL, *];try omega),rfl⟩
    ·have xe:(n != 0)=true:=by simp [A]
     have xf:(n == 0)=false:=by simp [A]
     go_wp2;go_meet;case rel=>exact ⟨by first | rfl | (refine Ad Value.bool ?_;simp [cL, *];try omega),rfl⟩
  ·rcases Bool.eq_false_or_eq_true b with rfl | rfl
   ·by_cases A:n=0
    ·subst A
     by_cases f:t=⟨#[]⟩
     ·subst f
      by_cases r:c=0
      ·subst r
       by_cases m:g=0
       ·subst m
        go_wp2;go_meet;case rel=>exact ⟨by first | rfl | (refine Ad Value.bool ?_;simp [cL, *];try omega),rfl⟩
       ·have u:(0:Int)<(g:Int):=by omega
        go_wp2;go_meet;case rel=>exact ⟨by first | rfl | (refine Ad Value.bool ?_;simp [cL, *];try omega),rfl⟩
      ·have E:(0:Int)<(c:Int):=by omega
       go_wp2;go_meet;case rel=>exact ⟨by first | rfl | (refine Ad Value.bool ?_;simp [cL, *];try omega),rfl⟩
     ·obtain ⟨Q,O,U,X,T⟩:=iV f
      go_wp2;go_meet;case rel=>exact ⟨by first | rfl | (refine Ad Value.bool ?_;simp [cL, *];try omega),rfl⟩
    ·have xe:(n != 0)=true:=by simp [A]
     have xf:(n == 0)=false:=by simp [A]
     go_wp2;go_meet;case rel=>exact ⟨by first | rfl | (refine Ad Value.bool ?_;simp [cL, *];try omega),rfl⟩
   ·by_cases A:n=0
    ·subst A
     by_cases f:t=⟨#[]⟩
     ·subst f
      by_cases r:c=0
      ·subst r
       by_cases m:g=0
       ·subst m
        go_wp2;go_meet;case rel=>exact ⟨by first | rfl | (refine Ad Value.bool ?_;simp [cL, *];try omega),rfl⟩
       ·have u:(0:Int)<(g:Int):=by omega
        go_wp2;go_meet;case rel=>exact ⟨by first | rfl | (refine Ad Value.bool ?_;simp [cL, *];try omega),rfl⟩
      ·have E:(0:Int)<(c:Int):=by omega
       go_wp2;go_meet;case rel=>exact ⟨by first | rfl | (refine Ad Value.bool ?_;simp [cL, *];try omega),rfl⟩
     ·obtain ⟨Q,O,U,X,T⟩:=iV f
      go_wp2;go_meet;case rel=>exact ⟨by first | rfl | (refine Ad Value.bool ?_;simp [cL, *];try omega),rfl⟩
    ·have xe:(n != 0)=true:=by simp [A]
     have xf:(n == 0)=false:=by simp [A]
     go_wp2;go_meet;case rel=>exact ⟨by first | rfl | (refine Ad Value.bool ?_;simp [cL, *];try omega),rfl⟩
  ·rcases Bool.eq_false_or_eq_true b with rfl | rfl
   ·go_wp2;go_meet;case rel=>exact ⟨by first | rfl | (refine Ad Value.bool ?_;simp [cL, *];try omega),rfl⟩
   ·by_cases A:n=0
    ·subst A
     by_cases f:t=⟨#[]⟩
     ·subst f
      by_cases r:c=0
      ·subst r
       by_cases m:g=0
       ·subst m
        go_wp2;go_meet;case rel=>exact ⟨by first | rfl | (refine Ad Value.bool ?_;simp [cL, *];try omega),rfl⟩
       ·have u:(0:Int)<(g:Int):=by omega
        go_wp2;go_meet;case rel=>exact ⟨by first | rfl | (refine Ad Value.bool ?_;simp [cL, *];try omega),rfl⟩
      ·have E:(0:Int)<(c:Int):=by omega
       go_wp2;go_meet;case rel=>exact ⟨by first | rfl | (refine Ad Value.bool ?_;simp [cL, *];try omega),rfl⟩
     ·obtain ⟨Q,O,U,X,T⟩:=iV f
      go_wp2;go_meet;case rel=>exact ⟨by first | rfl | (refine Ad Value.bool ?_;simp [cL, *];try omega),rfl⟩
    ·have xe:(n != 0)=true:=by simp [A]
     have xf:(n == 0)=false:=by simp [A]
     by_cases f:t=⟨#[]⟩
     ·subst f
      by_cases r:c=0
      ·subst r
       by_cases m:g=0
       ·subst m
        go_wp2;go_meet;case rel=>exact ⟨by first | rfl | (refine Ad Value.bool ?_;simp [cL, *];try omega),rfl⟩
       ·have u:(0:Int)<(g:Int):=by omega
        go_wp2;go_meet;case rel=>exact ⟨by first | rfl | (refine Ad Value.bool ?_;simp [cL, *];try omega),rfl⟩
      ·have E:(0:Int)<(c:Int):=by omega
       go_wp2;go_meet;case rel=>exact ⟨by first | rfl | (refine Ad Value.bool ?_;simp [cL, *];try omega),rfl⟩
     ·obtain ⟨Q,O,U,X,T⟩:=iV f
      go_wp2;go_meet;case rel=>exact ⟨by first | rfl | (refine Ad Value.bool ?_;simp [cL, *];try omega),rfl⟩
  ·rcases Bool.eq_false_or_eq_true b with rfl | rfl
   ·go_wp2;go_meet;case rel=>exact ⟨by first | rfl | (refine Ad Value.bool ?_;simp [cL, *];try omega),rfl⟩
   ·by_cases A:n=0
    ·subst A
     by_cases f:t=⟨#[]⟩
     ·subst f
      by_cases r:c=0
      ·subst r
       by_cases m:g=0
       ·subst m
        go_wp2;go_meet;case rel=>exact ⟨by first | rfl | (refine Ad Value.bool ?_;simp [cL, *];try omega),rfl⟩
       ·have u:(0:Int)<(g:Int):=by omega
        go_wp2;go_meet;case rel=>exact ⟨by first | rfl | (refine Ad Value.bool ?_;simp [cL, *];try omega),rfl⟩
      ·have E:(0:Int)<(c:Int):=by omega
       go_wp2;go_meet;case rel=>exact ⟨by first | rfl | (refine Ad Value.bool ?_;simp [cL, *];try omega),rfl⟩
     ·obtain ⟨Q,O,U,X,T⟩:=iV f
      by_cases r:c=0
      ·subst r
       by_cases m:g=0
       ·subst m
        go_wp2;go_meet;case rel=>exact ⟨by first | rfl | (refine Ad Value.bool ?_;simp [cL, *];try omega),rfl⟩
       ·have u:(0:Int)<(g:Int):=by omega
        go_wp2;go_meet;case rel=>exact ⟨by first | rfl | (refine Ad Value.bool ?_;simp [cL, *];try omega),rfl⟩
      ·have E:(0:Int)<(c:Int):=by omega
       go_wp2;go_meet;case rel=>exact ⟨by first | rfl | (refine Ad Value.bool ?_;simp [cL, *];try omega),rfl⟩
    ·have xe:(n != 0)=true:=by simp [A]
     have xf:(n == 0)=false:=by simp [A]
     go_wp2;go_meet;case rel=>exact ⟨by first | rfl | (refine Ad Value.bool ?_;simp [cL, *];try omega),rfl⟩
  ·rcases Bool.eq_false_or_eq_true b with rfl | rfl
   ·go_wp2;go_meet;case rel=>exact ⟨by first | rfl | (refine Ad Value.bool ?_;simp [cL, *];try omega),rfl⟩
   ·by_cases A:n=0
    ·subst A
     by_cases f:t=⟨#[]⟩
     ·subst f
      by_cases r:c=0
      ·subst r
       by_cases m:g=0
       ·subst m
        go_wp2;go_meet;case rel=>exact ⟨by first | rfl | (refine Ad Value.bool ?_;simp [cL, *];try omega),rfl⟩
       ·have u:(0:Int)<(g:Int):=by omega
        go_wp2;go_meet;case rel=>exact ⟨by first | rfl | (refine Ad Value.bool ?_;simp [cL, *];try omega),rfl⟩
      ·have E:(0:Int)<(c:Int):=by omega
       by_cases m:g=0
       ·subst m
        go_wp2;go_meet;case rel=>exact ⟨by first | rfl | (refine Ad Value.bool ?_;simp [cL, *];try omega),rfl⟩
       ·have u:(0:Int)<(g:Int):=by omega
        go_wp2;go_meet;case rel=>exact ⟨by first | rfl | (refine Ad Value.bool ?_;simp [cL, *];try omega),rfl⟩
     ·obtain ⟨Q,O,U,X,T⟩:=iV f
      go_wp2;go_meet;case rel=>exact ⟨by first | rfl | (refine Ad Value.bool ?_;simp [cL, *];try omega),rfl⟩
    ·have xe:(n != 0)=true:=by simp [A]
     have xf:(n == 0)=false:=by simp [A]
     go_wp2;go_meet;case rel=>exact ⟨by first | rfl | (refine Ad Value.bool ?_;simp [cL, *];try omega),rfl⟩
  ·rcases Bool.eq_false_or_eq_true b with rfl | rfl
   ·go_wp2;go_meet;case rel=>exact ⟨by first | rfl | (refine Ad Value.bool ?_;simp [cL, *];try omega),rfl⟩
   ·by_cases A:n=0
    ·subst A
     by_cases f:t=⟨#[]⟩
     ·subst f
      by_cases r:c=0
      ·subst r
       by_cases m:g=0
       ·subst m
        go_wp2;go_meet;case rel=>exact ⟨by first | rfl | (refine Ad Value.bool ?_;simp [cL, *];try omega),rfl⟩
       ·have u:(0:Int)<(g:Int):=by omega
        go_wp2;go_meet;case rel=>exact ⟨by first | rfl | (refine Ad Value.bool ?_;simp [cL, *];try omega),rfl⟩
      ·have E:(0:Int)<(c:Int):=by omega
       by_cases m:g=0
       ·subst m
        go_wp2;go_meet;case rel=>exact ⟨by first | rfl | (refine Ad Value.bool ?_;simp [cL, *];try omega),rfl⟩
       ·have u:(0:Int)<(g:Int):=by omega
        go_wp2;go_meet;case rel=>exact ⟨by first | rfl | (refine Ad Value.bool ?_;simp [cL, *];try omega),rfl⟩
     ·obtain ⟨Q,O,U,X,T⟩:=iV f
      go_wp2;go_meet;case rel=>exact ⟨by first | rfl | (refine Ad Value.bool ?_;simp [cL, *];try omega),rfl⟩
    ·have xe:(n != 0)=true:=by simp [A]
     have xf:(n == 0)=false:=by simp [A]
     go_wp2;go_meet;case rel=>exact ⟨by first | rfl | (refine Ad Value.bool ?_;simp [cL, *];try omega),rfl⟩
 case rest=>
  obtain ⟨rfl,rfl⟩:=hcut;obtain ⟨bO,yd⟩:∃q,q=cL k b n t g c:=⟨_,rfl⟩;rw [←yd];have yv:=Hh (HT.o.below B1.o);obtain ⟨bP,yj⟩:∃q,q=LV k b n t g c:=⟨_,rfl⟩;have yq:=Hh yd;have xh:=Hh yj;clear yd yj
  go_upto_region 2 with fail
  go_cut [100] from 74 to 99 (fun v Z=>v=.bool (!bP)∧Below wc.heap.size wc Z)
  case first=>
   have TX:=Hh (zX t wc y2.o yv.o);have FK:=Hh (fun (Z:World) (hb:Below wc.heap.size wc Z)=>(show Z.cell? ⟨w.heap.size,0,none⟩=some (Iz k)∧Z.cell? ⟨w.heap.size,4,none⟩=some (.slice a1 g c1)∧Z.cell? ⟨w.heap.size,5,none⟩=some (.slice a2 c c2) from ⟨(hb.cell (p:=⟨w.heap.size,0,none⟩) WL.o).trans CK.o.1,(hb.cell (p:=⟨w.heap.size,4,none⟩) WL.o).trans CK.o.2.2.2.2.1,(hb.cell (p:=⟨w.heap.size,5,none⟩) WL.o).trans CK.o.2.2.2.2.2⟩))
   have HP:Hid (bP=(bO && (aZ t && (decide (c≤256) && (!decide (k=5) || decide (g=c)))))):=Hh (by rw [xh.o,yq.o];rfl)
   generalize aZ t=bT at TX HP;cases bO with
   | false=>
    go_wp2;go_meet
    case rel=>exact ⟨by rw [HP.o];rfl,Br _ _⟩
   | true=>
   cases bT with
   | false=>
    go_wp2_with (go_at_call 91;(with_reducible refine (TX.o).mono ?_);rintro e w3 ⟨rfl,C⟩)
    go_meet
    case rel=>exact ⟨by rw [HP.o];rfl,C⟩
   | true=>
   by_cases Y:c≤256
   ·have yh:¬ (256:Int)<(c:Int):=by omega
    by_cases xm:k=5
    ·subst xm
     by_cases xs:g=c
     ·have yl:((g:Int) != (c:Int))=false:=by simp [xs]
      have y4:decide (g=c)=true:=Ap xs;clear xs
      go_wp2_with (go_at_call 91;(with_reducible refine (TX.o).mono ?_);rintro e w3 ⟨rfl,C⟩;(have fk:=FK.o w3 C);clear ck)
      go_meet
      case rel=>exact ⟨by rw [HP.o,y4,Ap Y];exact Ad Value.bool (Ar (by omega)),C⟩
     ·have yl:((g:Int) != (c:Int))=true:=by simp;omega
      go_wp2_with (go_at_call 91;(with_reducible refine (TX.o).mono ?_);rintro e w3 ⟨rfl,C⟩;(have fk:=FK.o w3 C);clear ck)
      go_meet
      case rel=>exact ⟨by rw [HP.o,Ar xs,Ap Y];rfl,C⟩
    ·have za:(k == 5)=false:=by simp [xm]
     go_wp2_with (go_at_call 91;(with_reducible refine (TX.o).mono ?_);rintro e w3 ⟨rfl,C⟩;(have fk:=FK.o w3 C);clear ck)
     go_meet
     case rel=>exact ⟨by rw [HP.o,Ap Y,Ar xm];exact Ad Value.bool (Ar (by omega)),C⟩
   ·have yh:(256:Int)<(c:Int):=by omega
    go_wp2_with (go_at_call 91;(with_reducible refine (TX.o).mono ?_);rintro e w3 ⟨rfl,C⟩;(have fk:=FK.o w3 C);clear ck)
    go_meet
    case rel=>exact ⟨by rw [HP.o,Ar Y];rfl,C⟩
  case rest=>
   obtain ⟨rfl,M⟩:=hcut;obtain ⟨w3,yy⟩:∃w3,w3=wc:=⟨_,rfl⟩;cases hbp:bP with
   | false=>
    go_wp2
    go_ret
    exact ⟨by rw [←xh.o,hbp];rfl,B1.o.trans (M.mono B1.o.size)⟩
   | true=>
   obtain ⟨p1,-,-,p2⟩:=QM (xh.o.symm.trans hbp);have B:=B1.o.trans (M.mono B1.o.size);have x9:wc.cell? ⟨w.heap.size,4,none⟩=some (.slice a1 g c1)∧wc.cell? ⟨w.heap.size,5,none⟩=some (.slice a2 c c2):=⟨(M.cell (p:=⟨w.heap.size,4,none⟩) WL.o).trans CK.o.2.2.2.2.1,(M.cell (p:=⟨w.heap.size,5,none⟩) WL.o).trans CK.o.2.2.2.2.2⟩;have xz:w.heap.size<wc.heap.size:=Ll WL.o M.size;have y3:Hid (LV k b n t g c=true):=Hh (xh.o.symm.trans hbp);have xi:=Hh xz;clear ck CK M hbp yv yq WL xz;have zd:=@run_makeMap prog;have xk:=Hh (dH.made wc prog 9 4);have bM:=B.alloc (o:=.map #[] 0) B.size;have BM:=Hh bM;have xp:Hid ((wc.alloc (.map #[] 0)).cell? ⟨w.heap.size,4,none⟩=some (.slice a1 g c1)∧(wc.alloc (.map #[] 0)).cell? ⟨w.heap.size,5,none⟩=some (.slice a2 c c2)):=Hh ⟨(((Br wc.heap.size wc).alloc (Lr _) _).cell (p:=⟨w.heap.size,4,none⟩) xi.o).trans x9.1,(((Br wc.heap.size wc).alloc (Lr _) _).cell (p:=⟨w.heap.size,5,none⟩) xi.o).trans x9.2⟩;have BW:=Hh B;have zf:w.heap.size≤wc.heap.size:=B.size;clear bM B x9 xh yy w3
   go_upto_region 5 with fail
   generalize wc.alloc (.map #[] 0)=w4 at BM xp xk ⊢;have y7:=xp.o
   go_upto_region 6 with fail
   clear y7
   go_loopw [105] (fun i wr=>∃j:Nat,i=Iz j∧j≤g∧dH prog 9 4 wr wc.heap.size (ns.take j).reverse∧(∀s,s ∈ ns.take j→aZ s=true)∧(ns.take j).Nodup∧Below w.heap.size w wr∧wr.cell? ⟨w.heap.size,5,none⟩=some (.slice a2 c c2)) (fun i _=>g - (intOf i).toNat)
   case atStart=>exact ⟨0,rfl,Av _,xk.o,(fun s h=>by simp at h),by simp,BM.o,xp.o.2⟩
   case round=>
    obtain ⟨j,rfl,hj,xg,F,K,B,xw⟩:=hrel;clear xk BM xp
    by_cases yk:j<g
    ·have yx:(j:Int)<(g:Int):=by omega
     have zl:(0:Int)≤(j:Int):=by omega
     have xr:j<ns.length:=by have:=yp.o;omega
     obtain ⟨-,-,-,bb,N,rfl,yg,hc,hs⟩:=HN.o.at xr;have y0:=(B.cell (p:=⟨bb,N+j,none⟩) (HS.o bb yg)).trans hc;obtain ⟨s,x7⟩:∃s,s=ns[j]:=⟨_,rfl⟩;rw [←x7] at hc hs y0;have x8:ns[j]?=some s:=by rw [Ac xr,x7]
     have yt:ns.take (j+1)=ns.take j++[s]:=by rw [Bf,x8];rfl
     have V:=Hh (zX s wr hs (HT.o.below B));have I:=Ck (P:=prog) (k:=9) (s:=s) underlying9 (by unfold maxLen at hs ⊢;omega)
     have yf:=Hh yt;have yr:=Hh x8;have ye:=Hh F;have y9:=Hh K;have xq:=Hh xg;clear hc hs x7 x8 yt F K xg
     by_cases xb:aZ s=true
     ·rw [xb] at V
      by_cases xc:s ∈ ns.take j
      ·have xo:xS ns=false:=by
        refine aCh fun A=>?_
        rw [List.nodup_iff_pairwise_ne,List.pairwise_iff_getElem] at A;obtain ⟨q,hq,e⟩:=List.getElem_of_mem xc;rw [Bc] at hq;rw [List.getElem_take] at e;refine A q j (by omega) xr (by omega) ?_
        rw [e];have:=yr.o;rw [Ac xr] at this;exact (Ab this).symm
       have ya:=Hh xo;have L:=fun Z (h:dH prog 9 4 Z wc.heap.size (ns.take j).reverse)=>h.look (t:=127) nO underlying127 underlying4 (DL Z) s I
       rw [(qG s _).2 (List.mem_reverse.2 xc)] at L;have LL:=Hh L;clear L xo xc I
       go_wp2_with (go_at_call 91;(with_reducible refine (V.o).mono ?_);rintro e w1 ⟨rfl,l⟩;(have xl:=LL.o w1 (xq.o.below l));(have G:=B.trans (l.mono B.size));clear l B)
       go_ret
       exact ⟨by rw [ya.o,Bool.and_false,Bool.false_and];rfl,G⟩
      ·have L:=fun Z (h:dH prog 9 4 Z wc.heap.size (ns.take j).reverse)=>h.look (t:=127) nO underlying127 underlying4 (DL Z) s I
       have xx:inB s (ns.take j).reverse=false:=by
        cases hq:inB s (ns.take j).reverse with
        | false=>rfl
        | true=>exact absurd (List.mem_reverse.1 ((qG s _).1 hq)) xc
       rw [xx] at L;have LL:=Hh L;have y6:=Hh xc;have yn:=Hh I;have zi:(ns.take j).reverse.length<1000000:=by rw [List.length_reverse,Bc];omega
       have y8:=Hh xb;have y1:w.heap.size ≠ wc.heap.size:=by have:=xi.o;omega
       clear L xc I xx xb
       go_wp2_with (first
        | (go_at_call 91;(with_reducible refine (V.o).mono ?_);rintro e w1 ⟨rfl,l⟩;(have xl:=LL.o w1 (xq.o.below l));(have G:=B.trans (l.mono B.size));(have R:=xq.o.below l);(have x5:=(l.cell (p:=⟨w.heap.size,5,none⟩) (Ll xi.o (Bw xq.o.lt))).trans xw);clear l B)
        | (at_mapUpdate;refine Dq _ rfl _ _ _ 127 rfl 9 4 nO underlying127 _ wc.heap.size (ns.take j).reverse.length _ rfl R (by unfold maxLen;omega) _ _ _ rfl rfl yn.o _ [] (plainElem_bool underlying4 true) ?_;intro w2 xn J))
       have yi:dH prog 9 4 w2 wc.heap.size (s::(ns.take j).reverse):=dH.put xn;have M:=gI G J G.size (by omega)
       have yu:w2.cell? ⟨w.heap.size,5,none⟩=some (.slice a2 c c2):=(jA (J.block w.heap.size (Ll xi.o (Bw R.lt)) (fun e=>y1 (Ab e)))).trans x5
       clear xn J G R xl x5 xw
       go_wp2
       go_roundw
       case rel=>
        refine ⟨j+1,by go_num,by omega,?_,?_,?_,M,yu⟩
        ·rw [yf.o,List.reverse_append];exact yi
        ·intro y hy
         rw [yf.o] at hy;rcases Bg.1 hy with hy | hy
         ·exact ye.o y hy
         ·cases At.1 hy;exact y8.o
        ·rw [yf.o,List.nodup_append]
         refine ⟨y9.o,by simp,fun a ha b hb=>?_⟩
         cases At.1 hb;intro e;subst e;exact y6.o ha
       case measure=>simp [intOf];omega
     ·have xo:xS ns=false:=aCi (Ao yr.o) xb
      have ya:=Hh xo;have xy:aZ s=false:=by simpa using xb
      rw [xy] at V;clear xo xb xy I
      go_wp2_with (go_at_call 91;(with_reducible refine (V.o).mono ?_);rintro e w1 ⟨rfl,l⟩;(have G:=B.trans (l.mono B.size));clear l B)
      go_ret
      exact ⟨by rw [ya.o,Bool.and_false,Bool.false_and];rfl,G⟩
    ·have yx:¬ (j:Int)<(g:Int):=by omega
     have yo:ns.take j=ns:=Ak (by have:=yp.o;omega)
     rw [yo] at F K;have y5:Hid ((LV k b n t g c && xS ns)=true):=Hh (by rw [y3.o,XU F K];rfl)
     clear yo xg F K hj yk
     go_upto_region 13 with fail
     have HB:=Hh B;have zc:=Hh xw;clear B xw
     go_loopw [123] (fun i wr=>∃j:Nat,i=Iz j∧j≤c∧(∀y,y ∈ its.take j→aC d y=true)∧Below w.heap.size w wr) (fun i _=>c - (intOf i).toNat)
     case atStart=>exact ⟨0,rfl,Av _,(fun y hy=>by simp at hy),HB.o⟩
     case round=>
      clear HB;obtain ⟨q,rfl,hq,F,B⟩:=hrel
      by_cases yk:q<c
      ·have ys:(q:Int)<(c:Int):=by omega
       have ze:(0:Int)≤(q:Int):=by omega
       obtain ⟨-,-,-,b',N,y,a3,l3,c3,a4,l4,c4,rfl,yg,hx,K,k0,k1,k2,k3,k4,k5⟩:=H.o.at (j:=q) (by have:=ym.o;omega)
       have xd:=HS.o b' yg;have q0:=(B.cell (p:=⟨b',N+q * 6,none⟩) xd).trans k0;have q1:=(B.cell (p:=⟨b',N+q * 6+1,none⟩) xd).trans k1;have q2:=(B.cell (p:=⟨b',N+q * 6+2,none⟩) xd).trans k2;have q3:=(B.cell (p:=⟨b',N+q * 6+3,none⟩) xd).trans k3;have q4:=(B.cell (p:=⟨b',N+q * 6+4,none⟩) xd).trans k4;have q5:=(B.cell (p:=⟨b',N+q * 6+5,none⟩) xd).trans k5;clear k0 k1 k2 k3 k4 k5;have bA:=B.alloc (o:=.cells (Na y a3 l3 c3 a4 l4 c4) 28) B.size;have cA:=aA (Hn wr (.cells (Na y a3 l3 c3 a4 l4 c4) 28));have W:=Hh (HI.o D S _ y (wr.alloc (.cells (Na y a3 l3 c3 a4 l4 c4) 28)) (K.same fun b hb=>bA.block b (HS.o b hb)) (fun b hb=>Ll (HS.o b hb) bA.size) (yz.o y (Ao hx)) (HT.o.below bA))
       have HX:=Hh hx;have ye:=Hh F;have BA:=Hh bA;have zj:((d:Int)+1 - 1)=(d:Int):=by omega
       have zh:IntKind.i64.wrap (d:Int)=(d:Int):=Cc _ (by omega)
       clear hx F K bA B;cases hv:aC d y with
       | true=>
        rw [hv] at W;have yb:=Hh hv;clear hv
        go_wp2_with (go_at_call 58;(with_reducible refine (W.o).mono ?_);rintro e w1 ⟨rfl,l⟩;(have G:=BA.o.trans (l.mono BA.o.size));clear l)
        go_roundw
        case rel=>
         refine ⟨q+1,by go_num,by omega,fun z hz=>?_,G⟩
         rw [nG HX.o] at hz;rcases Bg.1 hz with hz | hz
         ·exact ye.o z hz
         ·cases At.1 hz;exact yb.o
        case measure=>simp [intOf];omega
       | false=>
        rw [hv] at W;have yb:=Hh hv;clear hv
        go_wp2_with (go_at_call 58;(with_reducible refine (W.o).mono ?_);rintro e w1 ⟨rfl,l⟩;(have G:=BA.o.trans (l.mono BA.o.size));clear l)
        go_ret
        have xa:its.all (aC d)=false:=by
         cases hq:its.all (aC d) with
         | false=>rfl
         | true=>
          have:=Ax.1 hq y (Ao HX.o);rw [yb.o] at this;cases this
        exact ⟨by rw [xa,Bool.and_false];rfl,G⟩
      ·have ys:¬ (q:Int)<(c:Int):=by omega
       have xa:its.all (aC d)=true:=by
        rw [Ak (by have:=ym.o;omega)] at F
        exact Ax.2 F
       have HA:=Hh xa;clear F xa
       go_wp2
       go_ret
       exact ⟨by rw [y5.o,HA.o];rfl,B⟩
theorem LP:uF 0:=by
 intro D S g x w h b c a;obtain ⟨f,i,c1,d,e,c2,rfl⟩:=h.slices;clear h b c a
 go_enter func58,ntmps58
 go_wp2
 go_ret
 exact ⟨rfl,(Br _ _).alloc (Lr _) _⟩
theorem zR:∀d,d<100→uF d
 | 0,_=>LP
 | d+1,h=>LQ (zR d (by omega)) (by omega)
theorem jF {D:Nat} {S:Nat→Prop} (m:Vl) (x:ND) (w:World) (h:aD D S w m x) (f:∀b,S b→b<w.heap.size) (p:iM D x) (g:jR w):Calls prog 32 #[.agg m.toArray] w fun e w'=>e=.returned (.bool (aC 8 x))∧Below w.heap.size w w':=by
 obtain ⟨l,n,c1,j,k,c2,rfl⟩:=h.slices;have a:=(Br w.heap.size w).alloc (o:=.cells (Na x l n c1 j k c2) 28) (Lr _);have V:=Hh (zR 8 (by decide) D S _ x (w.alloc (.cells (Na x l n c1 j k c2) 28)) (h.same fun b c=>a.block b (f b c)) (fun b c=>Ll (f b c) a.size) p (g.below a))
 rw [show ((8:Nat):Int)=8 from rfl] at V
 have i:=Hh a;generalize aC 8 x=q at V ⊢;clear h f p g a
 go_enter func32,ntmps32
 go_wp2_with (go_at_call 58;(with_reducible refine (V.o).mono ?_);rintro e r ⟨rfl,d⟩)
 go_ret
 exact ⟨rfl,i.o.trans (d.mono i.o.size)⟩
end Go.Proofs.YtncdpanfefnjlaaGreatDoor