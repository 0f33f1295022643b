import Derived.Test.YtncdpanfefnjlaaGreatDoorJlk
import Derived.Test.YtncdpanfefnjlaaGreatDoorNvw
set_option linter.unusedVariables false
set_option linter.unusedSimpArgs false
set_option maxHeartbeats 4000000
set_option maxRecDepth 1000000
namespace Go.Proofs.YtncdpanfefnjlaaGreatDoor
open Go.Proofs.Tryz
open Go Go.Maps Go.ChangeShapes Go.WideShapes Go.ChangeAt Go.RowKit
def fY (k:Int) (b:Bool):Value:=.agg #[Iz k,.bool b,Iz 0,.string ⟨#[]⟩,Sn,Sn]
open Classical in
noncomputable def jD (v:Value):Option (DataW Unit × List MemPlace):=if v=fY 0 false then some (.lit (.int .i64 0),[]) else if v=fY 1 false then some (.lit (.int .i64 1),[]) else if v=fY 1 true then some (.lit (.int .i64 2),[]) else none
theorem aCu:fY 1 false ≠ fY 0 false:=by intro h;simp [fY] at h
theorem aCt:fY 1 true ≠ fY 0 false:=by intro h;simp [fY] at h
theorem aCs:fY 1 true ≠ fY 1 false:=by intro h;simp [fY] at h
theorem nE:jD (fY 0 false)=some (.lit (.int .i64 0),[]):=by unfold jD;rw [Am rfl]
theorem wG:jD (fY 1 false)=some (.lit (.int .i64 1),[]):=by unfold jD;rw [Ae aCu,Am rfl]
theorem yU:jD (fY 1 true)=some (.lit (.int .i64 2),[]):=by unfold jD;rw [Ae aCt,Ae aCs,Am rfl]
theorem DP {v:Value} {n:Int} {a:List MemPlace} (h:jD v=some (.lit (.int .i64 n),a)):(n=0→v=fY 0 false)∧(n=1→v=fY 1 false)∧(n=2→v=fY 1 true):=by
 unfold jD at h
 split at h
 ·rename_i e
  simp only [Option.some.injEq,Dt,Db,Lit.int.injEq] at h;obtain ⟨⟨-,rfl⟩,-⟩:=h;exact ⟨fun _=>e,fun h=>by omega,fun h=>by omega⟩
 ·split at h
  ·rename_i e
   simp only [Option.some.injEq,Dt,Db,Lit.int.injEq] at h;obtain ⟨⟨-,rfl⟩,-⟩:=h;exact ⟨fun h=>by omega,fun _=>e,fun h=>by omega⟩
  ·split at h
   ·rename_i e
    simp only [Option.some.injEq,Dt,Db,Lit.int.injEq] at h;obtain ⟨⟨-,rfl⟩,-⟩:=h;exact ⟨fun h=>by omega,fun h=>by omega,fun _=>e⟩
   ·cases h
end Go.Proofs.YtncdpanfefnjlaaGreatDoor
namespace Go.Proofs.YtncdpanfefnjlaaGreatDoor
open Go.Proofs.Tryz
open Go Go.ChangeShapes Go.WideShapes Go.ChangeAt Go.RowKit
def qP (n:Nat):Nat:=if 48≤n∧n≤57 then n - 48 else (bits .or .u8 (n:Int) 32).toNat - 87
theorem pO {c x:UInt8} (h:lH c=some x):((48≤c.toNat∧c.toNat≤57)∨(¬ (48≤c.toNat∧c.toNat≤57)∧97≤bits .or .u8 (c.toNat:Int) 32∧bits .or .u8 (c.toNat:Int) 32≤122))∧qP c.toNat=x.toNat∧x.toNat<16:=by
 have:∀n:Fin 256,∀x,lH (UInt8.ofNat n.1)=some x→((48≤n.1∧n.1≤57)∨(¬ (48≤n.1∧n.1≤57)∧97≤bits .or .u8 (n.1:Int) 32∧bits .or .u8 (n.1:Int) 32≤122))∧qP n.1=x.toNat∧x.toNat<16:=by
  intro n x h;have:∀n:Fin 256,(lH (UInt8.ofNat n.1)).isSome=true→((48≤n.1∧n.1≤57)∨(¬ (48≤n.1∧n.1≤57)∧97≤bits .or .u8 (n.1:Int) 32∧bits .or .u8 (n.1:Int) 32≤122))∧qP n.1=((lH (UInt8.ofNat n.1)).getD 0).toNat∧((lH (UInt8.ofNat n.1)).getD 0).toNat<16:=by decide +kernel
  have:=this n (by rw [h];rfl)
  rw [h] at this;exact this
 have a:=this ⟨c.toNat,c.toNat_lt⟩ x;rw [show UInt8.ofNat c.toNat=c from Dp] at a
 exact a h
def RX:Ub→Option Nat
 | [a,b]=>match lH a,lH b with
  | some x,some y=>some (16 * x.toNat+y.toNat)
  | _,_=>none
 | _=>none
def ZH (l:Ub):Nat:=l.foldl (fun a c=>a * 16+qP c.toNat) 0
theorem ZG (l:Ub) (c:UInt8):ZH (l++[c])=ZH l * 16+qP c.toNat:=by unfold ZH;rw [List.foldl_append];rfl
theorem MZ {l:Ub} {v:Nat} (h:RX l=some v):(∀c,c ∈ l→∃x,lH c=some x)∧v=ZH l∧l.length=2:=by
 unfold RX at h
 split at h
 ·rename_i a b
  cases hx:lH a with
  | none=>rw [hx] at h;cases h
  | some x=>
   cases hy:lH b with
   | none=>rw [hx,hy] at h;cases h
   | some y=>
    rw [hx,hy] at h;cases h;refine ⟨fun c d=>?_,?_,rfl⟩
    ·simp only [Bl,Bn,Dl] at d
     rcases d with rfl | rfl
     ·exact ⟨x,hx⟩
     ·exact ⟨y,hy⟩
    ·show _=(0 * 16+qP a.toNat) * 16+qP b.toNat
     rw [(pO hx).2.1,(pO hy).2.1];omega
 ·cases h
def pY (w:World):Prop:=(∃t p,w.cell? ⟨6,0,none⟩=some (.iface t p))∧(∃t p,w.cell? ⟨7,0,none⟩=some (.iface t p))
theorem pY.below {w w':World} (h:pY w) (a:Below w.heap.size w w'):pY w':=by
 obtain ⟨⟨t,p,b⟩,⟨d,e,c⟩⟩:=h;exact ⟨⟨t,p,(a.cell (p:=⟨_,0,none⟩) (cD b)).trans b⟩,⟨d,e,(a.cell (p:=⟨_,0,none⟩) (cD c)).trans c⟩⟩
def aLn (v:Value):Prop:=v=.nilIface∨∃t p,v=.iface t p
def aGe (s:Bt) (w:World) (e:Ending) (w':World):Prop:=∃ (v:Int) (a:Value),e=.returned (.tuple #[Iz v,a])∧dD v=true∧aLn a∧(∀u,Lib.atoiAll s.data.toList=.ok u→v=u∧a=.nilIface)∧Below w.heap.size w w'
theorem KP {z:Int} (a:-9223372036854775808≤z) (b:z≤9223372036854775807):dD z=true:=by unfold dD;rw [Ap a,Ap b];rfl
theorem aFi (s:Bt) (w:World) (j:s.size≤1000000) (c:pY w):Calls prog 193 #[.string s] w (aGe s w):=by
 obtain ⟨⟨t,p,d⟩,⟨f,i,g⟩⟩:=c;cases h:Lib.atoiAll s.data.toList with
 | ok v=>
  refine (Any.strconv_Atoi_ok AX s (by omega) v h w).mono fun e w' q=>⟨v,.nilIface,q.1,KP (Lib.atoiAll_bounds h).1 (Lib.atoiAll_bounds h).2,.inl rfl,(fun u a=>by rw [h] at a;cases a;exact ⟨rfl,rfl⟩),?_⟩
  rcases q.2 with rfl | ⟨t,rfl⟩
  ·exact Br _ _
  ·exact Lib.bytesWorld_below _ _ _
 | «syntax»=>
  refine (Any.strconv_Atoi_syntax AX s (by omega) h _ w d (.inr ⟨t,p,rfl⟩)).mono fun e w' q=>?_
  obtain ⟨N,rfl,-,-,b⟩:=q;exact ⟨_,_,rfl,by decide,.inr ⟨_,_,rfl⟩,(fun u a=>by rw [h] at a;cases a),b⟩
 | range=>
  refine (Any.strconv_Atoi_range AX s (by omega) h _ w g (.inr ⟨f,i,rfl⟩)).mono fun e w' q=>?_
  obtain ⟨N,rfl,-,-,b⟩:=q;exact ⟨_,_,rfl,KP (Lib.atoiSat_bounds _).1 (Lib.atoiSat_bounds _).2,.inr ⟨_,_,rfl⟩,(fun u a=>by rw [h] at a;cases a),b⟩
theorem YF (c:Int) (w:World):Calls prog 179 #[.int .u8 c] w fun e w'=>e=.returned (.int .u8 (bits .or .u8 c 32))∧w=w':=by
 go_enter func179,ntmps179
 go_wp2
 go_ret
 exact ⟨rfl,rfl⟩
def aIu (s:Bt) (w:World) (e:Ending) (w':World):Prop:=∃ (v:Nat) (a:Value),e=.returned (.tuple #[.int .u64 (v:Int),a])∧v<256∧(a=.nilIface∨a=.iface 194 (Iz 2))∧(∀u,RX s.data.toList=some u→v=u∧a=.nilIface)∧Below w.heap.size w w'
theorem YW (s:Bt) (w:World) (hs:s.size≤2):Calls prog 151 #[.string s,Iz 16,Iz 8] w (aIu s w):=by
 by_cases xe:s.size=0
 ·have K:s.data.toList=[]:=Aw.1 (by rw [←Lib.size_eq];exact xe)
  have W:s.toList.isEmpty=true:=by rw [Cj,K];rfl
  go_enter func151,ntmps151
  go_wp2
  go_ret2
  exact ⟨0,_,rfl,by decide,.inr rfl,(fun u f=>by rw [K] at f;cases f),Br _ _⟩
 ·have W:s.toList.isEmpty=false:=by
   rw [Cj];cases h:s.data.toList with
   | nil=>have:=Lib.size_eq s;rw [h,Bz] at this;omega
   | cons _ _=>rfl
  have hB:∀j,j<s.size→(Lib.bytesWorld w 5 s).cell? ⟨w.heap.size,j,none⟩=some (.int .u8 (s.data.toList.getD j 0).toNat):=fun j hj=>Lib.bytesWorld_cell w 5 s j hj
  have xd:=Lib.run_convert_string_bytes (P:=prog) w 9 69 5 s (u:=.string) underlying9 underlying69 underlying5;have l:Below w.heap.size w (Lib.bytesWorld w 5 s):=Lib.bytesWorld_below _ _ _;obtain ⟨W1,V⟩:∃W1,W1=Lib.bytesWorld w 5 s:=⟨_,rfl⟩;rw [←V] at xd hB l;clear V;obtain ⟨O,hL⟩:∃O,O=s.data.toList:=⟨_,rfl⟩;have xh:O.length=s.size:=by rw [hL,Lib.size_eq]
  have HL:=Hh hL;rw [←hL] at hB;clear hL
  go_enter func151,ntmps151
  go_upto_region 36 with fail
  go_loopw [12,13,101] (fun vu vn vi wr=>∃ (k a:Nat) (z:Int),vu=.bool false∧vn=.int .u64 z∧vi=Iz (k:Int)∧wr=W1∧k≤s.size∧Hid (z=(a:Int)∧a<16 ^ k∧a=ZH (O.take k))) (fun _ _ vi _=>s.size - (intOf vi).toNat)
  case atStart=>exact ⟨0,0,0,rfl,rfl,rfl,rfl,by omega,Hh ⟨rfl,by decide,rfl⟩⟩
  case round=>
   obtain ⟨k,a,z,rfl,rfl,rfl,rfl,hk,Y⟩:=hrel;obtain ⟨y,F⟩:=Y.o;have F:=Hh F;clear Y
   by_cases xc:k<s.size
   ·have hc:=hB k xc
    have hg:O[k]?=some (O.getD k 0):=by rw [Cv,Ac (by omega)];rfl
    generalize O.getD k 0=c at hc hg;have HG:=Hh hg;clear hg hB;have S:c.toNat<256:=c.toNat_lt;have v:a<16:=by
     have:=F.o.1;have:16 ^ k≤16 ^ 1:=Ch (by decide) (by omega)
     omega
    have xj:z<1152921504606846976:=by omega
    have L:¬ (((48≤c.toNat∧c.toNat≤57)∨(¬ (48≤c.toNat∧c.toNat≤57)∧97≤bits .or .u8 (c.toNat:Int) 32∧bits .or .u8 (c.toNat:Int) 32≤122))∧qP c.toNat<16)→∀u,¬RX s.data.toList=some u:=by
     intro xf u f;rw [←HL.o] at f;obtain ⟨x,hx⟩:=(MZ f).1 c (Ao HG.o);obtain ⟨g1,g2,g3⟩:=pO hx;exact xf ⟨g1,by omega⟩
    have b:=Hh L;have HH:=Hh F.o;have T:=bits_lo_u8 .or (c.toNat:Int) 32;have U:=bits_hi_u8 .or (c.toNat:Int) 32;have d:=Hh (fun Q=>YF (c.toNat:Int) Q)
    have q:¬ (48≤c.toNat∧c.toNat≤57)→qP c.toNat=(bits .or .u8 (c.toNat:Int) 32).toNat - 87:=fun h=>by unfold qP;rw [Ae h]
    have t:(48≤c.toNat∧c.toNat≤57)→qP c.toNat=c.toNat - 48:=fun h=>by unfold qP;rw [Am h]
    have g:c.toNat=95→bits .or .u8 (c.toNat:Int) 32=127:=fun h=>by rw [h];decide
    have R:Hid (qP c.toNat<16→a * 16+qP c.toNat<16 ^ (k+1)∧a * 16+qP c.toNat=ZH (O.take (k+1))):=Hh fun h=>by
     refine ⟨by rw [Dz];have:=F.o.1;omega,?_⟩
     rw [Bf,HG.o,Option.toList_some,ZG,←F.o.2]
    clear L F HG;obtain ⟨D,hD⟩:∃D,D=qP c.toNat:=⟨_,rfl⟩;rw [←hD] at b q t R;clear hD;generalize bits .or .u8 (c.toNat:Int) 32=Z at b T U d q g;generalize c.toNat=n at b T U d q t g hc S;have xl:(0:Int)≤(n:Int):=by omega
    have xk:(n:Int)<256:=by omega
    have xi:(0:Int)≤z:=by omega
    have xg:=Hh y
    by_cases i:48≤n∧n≤57
    ·have A:=t i
     have N:(48:Int)≤(n:Int):=by omega
     have q2:(n:Int)≤57:=by omega
     have X:((n:Int) == 95)=false:=by simp;omega
     obtain ⟨m,H⟩:∃m:Int,m=(D:Int):=⟨_,rfl⟩;obtain ⟨r,C⟩:∃r:Int,r=((a * 16+D:Nat):Int):=⟨_,rfl⟩;have w0:(n:Int) - 48=m:=by omega
     have w2:IntKind.u64.wrap (z * 16)=z * 16:=by rw [Bi];omega
     have w3:IntKind.u64.wrap (z * 16+m)=r:=by rw [Bi];omega
     have w4:z * 16+m=r:=by omega
     have q4:m<16:=by omega
     have q5:(0:Int)≤m:=by omega
     have q6:¬r<z * 16:=by omega
     have q7:r≤255:=by omega
     have q8:¬ (255:Int)<r:=by omega
     have G:=Hh (R.o (by omega))
     have J:=Hh C;clear R q t g b A T U d i y v H C HH
     go_wp2
     go_roundw
     case rel=>exact ⟨k+1,a * 16+D,r,rfl,rfl,by go_num,trivial,by omega,Hh ⟨J.o,G.o⟩⟩
     case measure=>simp [intOf];omega
    ·have A:=q i
     have I:¬ (48:Int)≤(n:Int)∨¬ (n:Int)≤57:=by omega
     by_cases M:97≤Z∧Z≤122
     ·have X:((n:Int) == 95)=false:=by
       have:n ≠ 95:=fun e=>by have:=g e;omega
       simp;omega
      obtain ⟨l1,l2⟩:=M;obtain ⟨m,H⟩:∃m:Int,m=(D:Int):=⟨_,rfl⟩;have w0:Z - 97+10=m:=by omega
      have E:IntKind.u8.wrap (Z - 97)=Z - 97:=by rw [Da];omega
      have w2:IntKind.u8.wrap (Z - 97+10)=m:=by rw [Da];omega
      have w4:IntKind.u8.wrap m=m:=by rw [Da];omega
      have q5:(0:Int)≤m:=by omega
      have q6:m≤35:=by omega
      by_cases B:D<16
      ·obtain ⟨r,C⟩:∃r:Int,r=((a * 16+D:Nat):Int):=⟨_,rfl⟩
       have w5:IntKind.u64.wrap (z * 16)=z * 16:=by rw [Bi];omega
       have w6:IntKind.u64.wrap (z * 16+m)=r:=by rw [Bi];omega
       have w7:z * 16+m=r:=by omega
       have q4:m<16:=by omega
       have q7:¬r<z * 16:=by omega
       have q8:r≤255:=by omega
       have G:=Hh (R.o (by omega))
       have J:=Hh C;clear R q t g b A y v H C HH B i;rcases I with N | N
       ·go_wp2_with (go_at_call 179;(with_reducible refine (d.o _).mono ?_);rintro e E ⟨rfl,rfl⟩)
        go_roundw
        case rel=>exact ⟨k+1,a * 16+D,r,rfl,rfl,by go_num,trivial,by omega,Hh ⟨J.o,G.o⟩⟩
        case measure=>simp [intOf];omega
       ·have q0:(48:Int)≤(n:Int):=by omega
        go_wp2_with (go_at_call 179;(with_reducible refine (d.o _).mono ?_);rintro e E ⟨rfl,rfl⟩)
        go_roundw
        case rel=>exact ⟨k+1,a * 16+D,r,rfl,rfl,by go_num,trivial,by omega,Hh ⟨J.o,G.o⟩⟩
        case measure=>simp [intOf];omega
      ·have q4:¬m<16:=by omega
       have p:=Hh (b.o (fun h=>B h.2))
       clear R q t g b A y v H HH B i;rcases I with N | N
       ·go_wp2_with (go_at_call 179;(with_reducible refine (d.o _).mono ?_);rintro e E ⟨rfl,rfl⟩)
        go_ret2
        exact ⟨0,_,rfl,by decide,.inr rfl,(fun u f=>absurd f (p.o u)),l⟩
       ·have q0:(48:Int)≤(n:Int):=by omega
        go_wp2_with (go_at_call 179;(with_reducible refine (d.o _).mono ?_);rintro e E ⟨rfl,rfl⟩)
        go_ret2
        exact ⟨0,_,rfl,by decide,.inr rfl,(fun u f=>absurd f (p.o u)),l⟩
     ·have p:=Hh (b.o (fun h=>h.1.elim i (fun h=>M h.2)))
      clear R q t g b A y v HH i;have xa:¬97≤Z∨¬Z≤122:=by omega
      rcases xa with l1 | l1
      ·rcases I with N | N
       ·by_cases g:n=95
        ·omega
        ·have X:((n:Int) == 95)=false:=by simp;omega
         go_wp2_with (go_at_call 179;(with_reducible refine (d.o _).mono ?_);rintro e E ⟨rfl,rfl⟩)
         go_ret2
         exact ⟨0,_,rfl,by decide,.inr rfl,(fun u f=>absurd f (p.o u)),l⟩
       ·have q0:(48:Int)≤(n:Int):=by omega
        by_cases g:n=95
        ·subst g
         have L2:Hid (∀Q:World,Calls prog 179 #[.int .u8 95] Q fun e w'=>e=.returned (.int .u8 Z)∧Q=w'):=d
         go_wp2_with (go_at_call 179;(with_reducible refine (L2.o _).mono ?_);rintro e E ⟨rfl,rfl⟩)
         go_ret2
         exact ⟨0,_,rfl,by decide,.inr rfl,(fun u f=>absurd f (p.o u)),l⟩
        ·have X:((n:Int) == 95)=false:=by simp;omega
         go_wp2_with (go_at_call 179;(with_reducible refine (d.o _).mono ?_);rintro e E ⟨rfl,rfl⟩)
         go_ret2
         exact ⟨0,_,rfl,by decide,.inr rfl,(fun u f=>absurd f (p.o u)),l⟩
      ·rcases I with N | N
       ·have X:((n:Int) == 95)=false:=by simp;omega
        have l2:97≤Z:=by omega
        go_wp2_with (go_at_call 179;(with_reducible refine (d.o _).mono ?_);rintro e E ⟨rfl,rfl⟩)
        go_ret2
        exact ⟨0,_,rfl,by decide,.inr rfl,(fun u f=>absurd f (p.o u)),l⟩
       ·have q0:(48:Int)≤(n:Int):=by omega
        have l2:97≤Z:=by omega
        by_cases g:n=95
        ·subst g
         have L2:Hid (∀Q:World,Calls prog 179 #[.int .u8 95] Q fun e w'=>e=.returned (.int .u8 Z)∧Q=w'):=d
         go_wp2_with (go_at_call 179;(with_reducible refine (L2.o _).mono ?_);rintro e E ⟨rfl,rfl⟩)
         go_ret2
         exact ⟨0,_,rfl,by decide,.inr rfl,(fun u f=>absurd f (p.o u)),l⟩
        ·have X:((n:Int) == 95)=false:=by simp;omega
         go_wp2_with (go_at_call 179;(with_reducible refine (d.o _).mono ?_);rintro e E ⟨rfl,rfl⟩)
         go_ret2
         exact ⟨0,_,rfl,by decide,.inr rfl,(fun u f=>absurd f (p.o u)),l⟩
   ·have xb:k=s.size:=by omega
    subst xb;have HF:Hid (a<256∧∀u,RX s.data.toList=some u→a=u):=by
     refine Hh ⟨?_,fun u f=>?_⟩
     ·have:=F.o.1
      have:16 ^ s.size≤16 ^ 2:=Ch (by decide) hs
      omega
     ·rw [←HL.o] at f
      rw [F.o.2,(MZ f).2.1,Ak (by omega)]
    subst y;clear F
    go_wp2
    go_ret2
    exact ⟨a,_,rfl,HF.o.1,.inl rfl,fun u f=>⟨HF.o.2 u f,rfl⟩,l⟩
def aKo (s:Bt) (w:World) (e:Ending) (w':World):Prop:=∃ (v:Nat) (a:Value),e=.returned (.tuple #[.int .u64 (v:Int),a])∧v<256∧aLn a∧(∀u,RX s.data.toList=some u→v=u∧a=.nilIface)∧Below w.heap.size w w'
theorem aBv (s:Bt) (w:World) (m:s.size≤2) (i:pY w):Calls prog 206 #[.string s,Iz 16,Iz 8] w (aKo s w):=by
 have I:=Hh (YW s w m);have n:=Hh i;clear i
 go_enter func206,ntmps206
 go_upto_region 2 with ((with_reducible refine (I.o).mono ?_);rintro e c ⟨v,y,rfl,k,g,l,a⟩)
 have b:=Hh (Ai k l);clear k l I;rcases g with rfl | rfl
 ·go_wp2
  go_ret2
  exact ⟨v,_,rfl,b.o.1,.inl rfl,(fun u d=>⟨(b.o.2 u d).1,rfl⟩),a⟩
 ·obtain ⟨⟨t,p,j⟩,-⟩:=n.o.below a
  have T:Hid (Calls prog 136 #[.string ⟨#[80,97,114,115,101,85,105,110,116]⟩,.string s,Iz 16,Iz 8,.iface 194 (Iz 2)] c fun e w'=>(∃t p,e=.returned (.iface t p))∧Below c.heap.size c w'):=(Any.strconv_toError_syntax aDf ⟨#[80,97,114,115,101,85,105,110,116]⟩ s 16 8 _ c (by omega) j (.inr ⟨t,p,rfl⟩)).mono fun e w' ⟨N,h,_,_,a⟩=>⟨⟨_,_,h⟩,a⟩
  clear j
  go_wp2_with (go_at_call 136;(with_reducible refine (T.o).mono ?_);rintro e r ⟨⟨q,x,rfl⟩,f⟩)
  go_ret2
  exact ⟨v,_,rfl,b.o.1,.inr ⟨_,_,rfl⟩,(fun u d=>by have:=(b.o.2 u d).2;cases this),a.trans (f.mono a.size)⟩
end Go.Proofs.YtncdpanfefnjlaaGreatDoor
namespace Go.Proofs.YtncdpanfefnjlaaGreatDoor
open Go.Proofs.Tryz
open Go Go.Maps Go.ChangeShapes Go.WideShapes Go.ChangeAt Go.RowKit
def wV:Ub:=[110,117,108,108]
def mQ:Ub:=[102,97,108,115,101]
def sS:Ub:=[116,114,117,101]
def GG:DataW Unit:=(((DataW.map []).put (.string wV) (.lit (.int .i64 0))).put (.string mQ) (.lit (.int .i64 1))).put (.string sS) (.lit (.int .i64 2))
def jC (l:Ub):Option ND:=if l=sS then some (.mk 1 true 0 ⟨#[]⟩ [] []) else if l=mQ then some (.mk 1 false 0 ⟨#[]⟩ [] []) else if l=wV then some nd0 else none
theorem PE (l:Ub):Maps.has GG (.string l)=(jC l).isSome∧GG.atKey (.string l) (.lit (.int .i64 0))=.lit (.int .i64 (if l=sS then 2 else if l=mQ then 1 else 0)):=by
 have c:IsMap (.map []:DataW Unit):=isMap_empty;have d:=c.put (.string wV) (.lit (.int .i64 0));have e:=d.put (.string mQ) (.lit (.int .i64 1));unfold GG;refine ⟨?_,?_⟩
 ·rw [oY e,oY d,oY c,show Maps.has (.map []:DataW Unit) (.string l)=false from rfl]
  unfold jC
  by_cases a:l=sS
  ·subst a;rfl
  by_cases b:l=mQ
  ·subst b;rfl
  by_cases f:l=wV
  ·subst f;rfl
  simp [a,b,f]
 ·rw [tD e,tD d,tD c,show (.map []:DataW Unit).atKey (.string l) (.lit (.int .i64 0))=.lit (.int .i64 0) from rfl]
  by_cases a:l=sS
  ·rw [Am a,Am a]
  by_cases b:l=mQ
  ·rw [Ae a,Ae a,Am b,Am b]
  rw [Ae a,Ae a,Ae b,Ae b,ite_self]
def oE:Ub→Option UInt8
 | [x]=>vR x
 | _=>none
theorem SR:∀c:UInt8,∀l,kV (c.toNat:Int)=some l→vR l=some c:=by
 have:∀n:Fin 256,∀l,kV ((UInt8.ofNat n.1).toNat:Int)=some l→vR l=some (UInt8.ofNat n.1):=by
  intro n l h;have:∀n:Fin 256,(kV ((UInt8.ofNat n.1).toNat:Int)).isSome=true→vR ((kV ((UInt8.ofNat n.1).toNat:Int)).getD 0)=some (UInt8.ofNat n.1):=by decide +kernel
  have:=this n (by rw [h];rfl)
  rw [h] at this;exact this
 intro c l h;have a:=this ⟨c.toNat,c.toNat_lt⟩ l;rw [show UInt8.ofNat c.toNat=c from Dp] at a
 exact a h
theorem nN:∀l c:UInt8,vR l=some c→kV (c.toNat:Int)=some l:=by
 have:∀n:Fin 256,∀c,vR (UInt8.ofNat n.1)=some c→kV (c.toNat:Int)=some (UInt8.ofNat n.1):=by
  intro n c h;have:∀n:Fin 256,(vR (UInt8.ofNat n.1)).isSome=true→kV (((vR (UInt8.ofNat n.1)).getD 0).toNat:Int)=some (UInt8.ofNat n.1):=by decide +kernel
  have:=this n (by rw [h];rfl)
  rw [h] at this;exact this
 intro l c h;have a:=this ⟨l.toNat,l.toNat_lt⟩ c;rw [show UInt8.ofNat l.toNat=l from Dp] at a
 exact a h
def uM (D:DataW Unit) (left:Lit→Bool):Prop:=(∀l,Maps.has D (.string l)=true↔∃c:UInt8,oE l=some c∧left (.int .u8 (c.toNat:Int))=false)∧∀l (c:UInt8),oE l=some c→left (.int .u8 (c.toNat:Int))=false→∀z,D.atKey (.string l) z=.lit (.int .u8 (c.toNat:Int))
theorem VM (w:World):(zeroValue 28).run prog w=.ok (fY 0 false) w:=by kernel_rfl
theorem aGf (w:World):(zeroValue 5).run prog w=.ok (.int .u8 0) w:=by kernel_rfl
def uC (w:World) (m:Nat):Prop:=w.ownsMap prog 9 jD m 3 GG
theorem uC.same {w w':World} {m:Nat} (h:uC w m) (b:w'.heap[m]?=w.heap[m]?):uC w' m:=by
 obtain ⟨f,a,c,F,d,e⟩:=h;exact ⟨f,a,b.trans c,F,d,e⟩
theorem uC.lt {w:World} {m:Nat} (h:uC w m):m<w.heap.size:=World.ownsMap.lt h
theorem uC.look {w:World} {m:Nat} (h:uC w m) {s:Bt} (j:s.size≤maxLen):(Instr.lookup 172 (.map (some m)) (.string s) true).run prog w=.ok (.tuple #[fY (((jC s.data.toList).getD nd0).kind) (((jC s.data.toList).getD nd0).bool),.bool (jC s.data.toList).isSome]) w:=by
 obtain ⟨v,n,b,d⟩:=World.ownsMap.look_ok h lF underlying172 (VM w) nE (Ck underlying9 j);obtain ⟨k,g⟩:=PE s.data.toList;rw [g] at d;rw [b,k];obtain ⟨l,i,f⟩:=DP d;have:v=fY (((jC s.data.toList).getD nd0).kind) (((jC s.data.toList).getD nd0).bool):=by
  by_cases a:s.data.toList=sS
  ·rw [f (by rw [Am a])];unfold jC;rw [Am a];rfl
  by_cases c:s.data.toList=mQ
  ·rw [i (by rw [Ae a,Am c])];unfold jC;rw [Ae a,Am c];rfl
  rw [l (by rw [Ae a,Ae c])];unfold jC;rw [Ae a,Ae c]
  by_cases e:s.data.toList=wV
  ·rw [Am e];rfl
  ·rw [Ae e];rfl
 rw [this]
theorem VU (w:World):Calls prog 142 #[] w fun e w'=>e=.returned (.map (some w.heap.size))∧uC w' w.heap.size∧Below w.heap.size w w':=by
 have l:=@run_makeMap prog;have d:=World.ownsMap_made (H:=Unit) w prog 9 jD;have a:=(Br w.heap.size w).alloc (o:=.map #[] 0) (Lr _);have j:=Hh d;have f:=Hh a;clear d a
 go_enter func142,ntmps142
 go_wp2_with (first
  | (refine cC _ rfl _ _ _ 172 rfl 9 28 lF underlying172 _ w.heap.size 2 _ rfl m (by unfold maxLen;omega) _ _ _ rfl rfl (Ck underlying9 (s:=⟨#[116,114,117,101]⟩) (by decide)) _ [] yU ?_;intro r n k;(have g:=gI c k (c.size) (Lr _)))
  | (refine cC _ rfl _ _ _ 172 rfl 9 28 lF underlying172 _ w.heap.size 1 _ rfl i (by unfold maxLen;omega) _ _ _ rfl rfl (Ck underlying9 (s:=⟨#[102,97,108,115,101]⟩) (by decide)) _ [] wG ?_;intro q m p;(have c:=gI b p (b.size) (Lr _)))
  | (refine cC _ rfl _ _ _ 172 rfl 9 28 lF underlying172 _ w.heap.size 0 _ rfl j.o (by unfold maxLen;omega) _ _ _ rfl rfl (Ck underlying9 (s:=⟨#[110,117,108,108]⟩) (by decide)) _ [] nE ?_;intro t i h;(have b:=gI f.o h (f.o.size) (Lr _))))
 go_ret
 exact ⟨rfl,n,g⟩
def uN (w:World) (m:Nat):Prop:=∃D n,w.ownsMap prog 9 (plainElem (H:=Unit) prog 5) m n D∧uM D fun _=>false
theorem uN.same {w w':World} {m:Nat} (h:uN w m) (b:w'.heap[m]?=w.heap[m]?):uN w' m:=by
 obtain ⟨D,n,⟨g,a,d,F,e,c⟩,f⟩:=h;exact ⟨D,n,⟨g,a,b.trans d,F,e,c⟩,f⟩
theorem uN.lt {w:World} {m:Nat} (h:uN w m):m<w.heap.size:=by obtain ⟨D,n,h,-⟩:=h;exact World.ownsMap.lt h
theorem uN.look {w:World} {m:Nat} (h:uN w m) {s:Bt} (j:s.size≤maxLen):∃c:Nat,c<256∧(Instr.lookup 174 (.map (some m)) (.string s) true).run prog w=.ok (.tuple #[.int .u8 (c:Int),.bool (oE s.data.toList).isSome]) w∧∀x,oE s.data.toList=some x→c=x.toNat:=by
 obtain ⟨D,n,h,a,d⟩:=h;obtain ⟨v,o,b,g⟩:=World.ownsMap.look_ok h lF underlying174 (aGf w) (plainElem_int underlying5 (by decide)) (Ck underlying9 j)
 obtain ⟨c,rfl,f,l⟩:=plainElem_int_inv underlying5 g;have p:0≤c∧c<256:=by
  simp [Lit.wf,IntKind.min,IntKind.max,IntKind.signed,IntKind.bits] at l;omega
 have k:Maps.has D (.string s.data.toList)=(oE s.data.toList).isSome:=by
  cases q:oE s.data.toList with
  | none=>
   cases q2:Maps.has D (.string s.data.toList) with
   | false=>rfl
   | true=>
    obtain ⟨c,e,-⟩:=(a _).1 q2;rw [q] at e;cases e
  | some x=>exact (a _).2 ⟨x,q,rfl⟩
 refine ⟨c.toNat,by omega,?_,fun x i=>?_⟩
 ·rw [b,k,show ((c.toNat:Nat):Int)=c by omega]
 ·rw [d _ x i rfl] at f
  simp only [Dt,Db,Lit.int.injEq] at f;omega
theorem DH (left:Lit→Bool) (h:∀c:UInt8,(kV (c.toNat:Int)).isSome=true→left (.int .u8 (c.toNat:Int))=true):uM (.map []) left:=by
 refine ⟨fun l=>⟨fun e=>(by cases e),?_⟩,fun l c e a=>?_⟩
 ·rintro ⟨c,e,a⟩
  rw [h c (by
   have:∃x,l=[x]∧vR x=some c:=by
    unfold oE at e
    split at e
    ·exact ⟨_,rfl,e⟩
    ·cases e
   obtain ⟨x,-,b⟩:=this;rw [nN x c b];rfl)] at a
  cases a
 ·rw [h c (by
   have:∃x,l=[x]∧vR x=some c:=by
    unfold oE at e
    split at e
    ·exact ⟨_,rfl,e⟩
    ·cases e
   obtain ⟨x,-,b⟩:=this;rw [nN x c b];rfl)] at a
  cases a
theorem IZ {D:DataW Unit} {left:Lit→Bool} (n:IsMap D) (h:uM D left) {x:UInt8} {l:UInt8} (m:kV (x.toNat:Int)=some l) (o:left (.int .u8 (x.toNat:Int))=true):uM (D.put (.string [l]) (.lit (.int .u8 (x.toNat:Int)))) (fun z=>left z && !z.sameKey (.int .u8 (x.toNat:Int))):=by
 have d:=SR x l m;have a:∀c:UInt8,(Lit.int .u8 (c.toNat:Int)).sameKey (.int .u8 (x.toNat:Int))=decide (c=x):=by
  intro c
  show decide (IntKind.u8=IntKind.u8∧(c.toNat:Int)=(x.toNat:Int))=_
  by_cases e:c=x
  ·subst e;simp
  ·rw [Ar e,Ar]
   rintro ⟨-,h⟩;exact e (UInt8.toNat_inj.1 (by omega))
 refine ⟨fun k=>?_,fun k c b g z=>?_⟩
 ·rw [oY n,Ee,As,h.1 k]
  constructor
  ·rintro (rfl | ⟨c,e,f⟩)
   ·exact ⟨x,d,by show (left _ && !_)=false;rw [a,Ap rfl];simp⟩
   ·exact ⟨c,e,by show (left _ && !_)=false;rw [f];rfl⟩
  ·rintro ⟨c,e,f⟩
   replace f:(left (.int .u8 (c.toNat:Int)) && !(Lit.int .u8 (c.toNat:Int)).sameKey (.int .u8 (x.toNat:Int)))=false:=f
   rw [a] at f
   by_cases i:c=x
   ·subst i
    left
    unfold oE at e
    split at e
    ·rename_i y
     have:=nN y c e;rw [m] at this;cases this;rfl
    ·cases e
   ·rw [Ar i] at f
    right
    exact ⟨c,e,by simpa using f⟩
 ·rw [tD n]
  replace g:(left (.int .u8 (c.toNat:Int)) && !(Lit.int .u8 (c.toNat:Int)).sameKey (.int .u8 (x.toNat:Int)))=false:=g
  rw [a] at g
  by_cases j:k=[l]
  ·rw [Am j]
   subst j;have:some x=some c:=by rw [←b];exact d.symm
   cases this;rfl
  ·rw [Ae j]
   refine h.2 k c b ?_ z
   by_cases i:c=x
   ·subst i
    exfalso
    apply j
    unfold oE at b
    split at b
    ·rename_i y
     have:=nN y c b;rw [m] at this;cases this;rfl
    ·cases b
   ·rw [Ar i] at g
    simpa using g
theorem ZW (w:World):Calls prog 143 #[] w fun e w'=>e=.returned (.map (some w.heap.size))∧uN w' w.heap.size∧Below w.heap.size w w':=by
 have xg:=@run_makeMap prog;have h0:=World.ownsMap_made (H:=Unit) w prog 9 (plainElem (H:=Unit) prog 5);have b0:=(Br w.heap.size w).alloc (o:=.map #[] 0) (Lr _);have a:(w.alloc (.map #[] 0)).heap.size=w.heap.size+1:=by simp
 have H0:=Hh h0;have B0:=Hh b0;have R:=xA (w.alloc (.map #[] 0));obtain ⟨m,i⟩:∃m,m=w.heap.size+1:=⟨_,rfl⟩;rw [a,←i] at R;have L:=Hh R;have HZ:=Hh a;have HM:=Hh i;clear R i a;clear h0 b0
 go_enter func143,ntmps143
 go_upto_region 2 with fail
 go_wp2_with (first
  | (go_at_call 139;(with_reducible refine (L.o).mono ?_);rintro e S ⟨rfl,u,F⟩)
  | (at_range;refine wpList_range_own _ rfl _ 165 rfl 5 9 rC underlying165 _ _ 7 _ rfl u ?_;intro w3 t O Z)
  | go_in)
 go_frame
 have a:=HZ.o;have i:=HM.o;have W:m=w.heap.size+1:=i;have f:=F.grown O (by rw [←a] at i;rw [i];exact F.size) (fun j N=>by cases N)
 have z:w3.ownsMap prog 9 (plainElem (H:=Unit) prog 5) w.heap.size 0 (.map []):=H0.o.kept (aK f (by rw [a,i];exact Lr _) none) (by simp)
 have xc:=B0.o.trans (f.mono (by omega))
 have hr:m<S.heap.size:=by have:=u.lt;exact this
 obtain ⟨r,P⟩:∃r,r=S.heap.size:=⟨_,rfl⟩;rw [←P] at t Z hr ⊢;have xi:w.heap.size<m:=by omega
 clear F u O L i f W a P HM HZ
 go_loopw [2,3] (fun _ _ wr=>∃ (left:Lit→Bool) (y:Nat) (b:DataW Unit) (n:Nat),wr.ranges prog 5 (plainElem (H:=Unit) prog 9) m r 7 pE left y∧n+y≤7 ∧
  wr.ownsMap prog 9 (plainElem (H:=Unit) prog 5) w.heap.size n b∧uM b left∧Below w.heap.size w wr)
  (fun _ _ wr=>wr.rangeLeft m r)
 case atStart=>
  refine ⟨_,_,.map [],0,t,by decide +kernel,z,DH _ fun c hc=>?_,xc⟩
  rw [(lE _).1];exact hc
 case round=>
  obtain ⟨left,y,b,n,K,xh,d,hA,k⟩:=hrel
  go_wp2_with (first
   | (at_next;refine wpList_next_ranges_is _ rfl _ rfl 5 9 .u8 rC underlying5 underlying9 m r 7 _ _ _ rfl K ?_ ?_)
   | go_in)
  ·intro xf xe
   go_wp2
   go_ret
   refine ⟨rfl,⟨b,n,d,?_⟩,k⟩
   rwa [show left=fun _=>false from funext xe] at hA
  ·intro x c w1 I D V C A p xa M xd U
   have E:=d.kept M (by intro e;have:=Ab e;omega)
   have T:0≤x∧x<256:=by
    simp [Lit.wf,IntKind.min,IntKind.max,IntKind.signed,IntKind.bits] at D;omega
   obtain ⟨Q,g⟩:∃Q:UInt8,(Q.toNat:Int)=x:=⟨UInt8.ofNat x.toNat,by rw [Bb];omega⟩
   obtain ⟨l,hl⟩:∃l,kV (Q.toNat:Int)=some l:=by
    have h:=(lE x).2 (.lit (.bool true));rw [A] at h;rw [g];cases q:kV x with
    | none=>rw [q] at h;cases h
    | some l=>exact ⟨l,rfl⟩
   have J:c.data.toList=[l]:=by
    have h:=(lE x).2 (.lit (.bool true));rw [A,←g,hl] at h;simp only [Db,Lit.string.injEq] at h;exact h
   rw [←g] at C p U ⊢;have B:=IZ d.isMap hA hl C;have X:(Lit.int IntKind.u8 (Q.toNat:Int)).wf=true:=by rw [g];exact D
   rw [←J] at B;clear hl A D T J hA g C;have Y:=Hh B;clear B
   go_wp2_with (first
    | (at_mapUpdate;refine Dq _ rfl _ _ _ 174 rfl 9 5 lF underlying174 _ w.heap.size _ _ rfl E (by unfold maxLen;omega) _ _ _ rfl rfl (Ck underlying9 V) _ [] (plainElem_int underlying5 X) ?_;intro S v G;go_frame)
    | go_in)
   have s:=p.kept G (fun e=>by have:=Ab e;omega) (fun e=>by have:=Ab e;omega)
   go_roundw
   case rel=>
    exact ⟨_,I,_,n+1,s,by omega,v,Y.o,(k.grown M k.size (fun j N=>by cases N;omega)).grown G (by rw [xd];exact k.size) (fun j N=>by cases N;exact Lr _)⟩
   case measure=>rw [s.left_eq,K.left_eq];exact xa
end Go.Proofs.YtncdpanfefnjlaaGreatDoor