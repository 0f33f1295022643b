import Derived.Test.YtncdpanfefnjlaaGreatDoorJlk
import Derived.Test.YtncdpanfefnjlaaGreatDoorNvw
set_option linter.unusedVariables false
set_option linter.unusedSimpArgs false
set_option maxHeartbeats 4000000
set_option maxRecDepth 1000000
namespace Go.Proofs.YtncdpanfefnjlaaGreatDoor
open Go.Proofs.Tryz
open Go Go.Maps Go.ChangeShapes Go.WideShapes Go.ChangeAt Go.RowKit
def fL (k:Int) (b:Bool):Value:=.agg #[Iz k,.bool b,Iz 0,.string ⟨#[]⟩,Sn,Sn]
open Classical in
noncomputable def iU (v:Value):Option (DataW Unit × List MemPlace):=if v=fL 0 false then some (.lit (.int .i64 0),[]) else if v=fL 1 false then some (.lit (.int .i64 1),[]) else if v=fL 1 true then some (.lit (.int .i64 2),[]) else none
theorem aBc:fL 1 false ≠ fL 0 false:=by intro h;simp [fL] at h
theorem aBb:fL 1 true ≠ fL 0 false:=by intro h;simp [fL] at h
theorem aBa:fL 1 true ≠ fL 1 false:=by intro h;simp [fL] at h
theorem mQ:iU (fL 0 false)=some (.lit (.int .i64 0),[]):=by unfold iU;rw [Am rfl]
theorem vF:iU (fL 1 false)=some (.lit (.int .i64 1),[]):=by unfold iU;rw [Af aBc,Am rfl]
theorem xO:iU (fL 1 true)=some (.lit (.int .i64 2),[]):=by unfold iU;rw [Af aBb,Af aBa,Am rfl]
theorem BP {v:Value} {n:Int} {ps:List MemPlace} (h:iU v=some (.lit (.int .i64 n),ps)):(n=0→v=fL 0 false)∧(n=1→v=fL 1 false)∧(n=2→v=fL 1 true):=by
 unfold iU at h
 split at h
 ·rename_i e
  simp only [Option.some.injEq,Dn,Cx,Lit.int.injEq] at h;obtain ⟨⟨-,rfl⟩,-⟩:=h;exact ⟨fun _=>e,fun h=>by omega,fun h=>by omega⟩
 ·split at h
  ·rename_i e
   simp only [Option.some.injEq,Dn,Cx,Lit.int.injEq] at h;obtain ⟨⟨-,rfl⟩,-⟩:=h;exact ⟨fun h=>by omega,fun _=>e,fun h=>by omega⟩
  ·split at h
   ·rename_i e
    simp only [Option.some.injEq,Dn,Cx,Lit.int.injEq] at h;obtain ⟨⟨-,rfl⟩,-⟩:=h;exact ⟨fun h=>by omega,fun h=>by omega,fun _=>e⟩
   ·cases h
end Go.Proofs.YtncdpanfefnjlaaGreatDoor
namespace Go.Proofs.YtncdpanfefnjlaaGreatDoor
open Go.Proofs.Tryz
open Go Go.ChangeShapes Go.WideShapes Go.ChangeAt Go.RowKit
def pQ (n:Nat):Nat:=if 48≤n∧n≤57 then n - 48 else (bits .or .u8 (n:Int) 32).toNat - 87
theorem oS {c x:UInt8} (h:kT c=some x):((48≤c.toNat∧c.toNat≤57)∨(¬ (48≤c.toNat∧c.toNat≤57)∧97≤bits .or .u8 (c.toNat:Int) 32∧bits .or .u8 (c.toNat:Int) 32≤122))∧pQ c.toNat=x.toNat∧x.toNat<16:=by
 have:∀n:Fin 256,∀x,kT (UInt8.ofNat n.1)=some x→((48≤n.1∧n.1≤57)∨(¬ (48≤n.1∧n.1≤57)∧97≤bits .or .u8 (n.1:Int) 32∧bits .or .u8 (n.1:Int) 32≤122))∧pQ n.1=x.toNat∧x.toNat<16:=by
  intro n x h;have:∀n:Fin 256,(kT (UInt8.ofNat n.1)).isSome=true→((48≤n.1∧n.1≤57)∨(¬ (48≤n.1∧n.1≤57)∧97≤bits .or .u8 (n.1:Int) 32∧bits .or .u8 (n.1:Int) 32≤122))∧pQ n.1=((kT (UInt8.ofNat n.1)).getD 0).toNat∧((kT (UInt8.ofNat n.1)).getD 0).toNat<16:=by decide +kernel
  have:=this n (by rw [h];rfl)
  rw [h] at this;exact this
 have hc:=this ⟨c.toNat,c.toNat_lt⟩ x;rw [show UInt8.ofNat c.toNat=c from Dj] at hc
 exact hc h
def QB:Ub→Option Nat
 | [a,b]=>match kT a,kT b with
  | some x,some y=>some (16 * x.toNat+y.toNat)
  | _,_=>none
 | _=>none
def XP (l:Ub):Nat:=l.foldl (fun a c=>a * 16+pQ c.toNat) 0
theorem XO (l:Ub) (c:UInt8):XP (l++[c])=XP l * 16+pQ c.toNat:=by unfold XP;rw [List.foldl_append];rfl
theorem LH {l:Ub} {v:Nat} (h:QB l=some v):(∀c,c ∈ l→∃x,kT c=some x)∧v=XP l∧l.length=2:=by
 unfold QB at h
 split at h
 ·rename_i a b
  cases hx:kT a with
  | none=>rw [hx] at h;cases h
  | some x=>
   cases hy:kT b with
   | none=>rw [hx,hy] at h;cases h
   | some y=>
    rw [hx,hy] at h;cases h;refine ⟨fun c hc=>?_,?_,rfl⟩
    ·simp only [Bz,Ck,or_false] at hc
     rcases hc with rfl | rfl
     ·exact ⟨x,hx⟩
     ·exact ⟨y,hy⟩
    ·show _=(0 * 16+pQ a.toNat) * 16+pQ b.toNat
     rw [(oS hx).2.1,(oS hy).2.1];omega
 ·cases h
def pB (w:World):Prop:=(∃t p,w.cell? ⟨6,0,none⟩=some (.iface t p))∧(∃t p,w.cell? ⟨7,0,none⟩=some (.iface t p))
theorem pB.below {w w':World} (h:pB w) (hb:Below w.heap.size w w'):pB w':=by
 obtain ⟨⟨t,p,h1⟩,⟨t',p',h2⟩⟩:=h;exact ⟨⟨t,p,(hb.cell (p:=⟨_,0,none⟩) (cD h1)).trans h1⟩,⟨t',p',(hb.cell (p:=⟨_,0,none⟩) (cD h2)).trans h2⟩⟩
def aJy (v:Value):Prop:=v=.nilIface∨∃t p,v=.iface t p
def aEs (s:Bt) (w:World) (e:Ending) (w':World):Prop:=∃ (v:Int) (ev:Value),e=.returned (.tuple #[Iz v,ev])∧dD v=true∧aJy ev∧(∀u,Lib.atoiAll s.data.toList=.ok u→v=u∧ev=.nilIface)∧Below w.heap.size w w'
theorem IY {z:Int} (h1:-9223372036854775808≤z) (h2:z≤9223372036854775807):dD z=true:=by unfold dD;rw [An h1,An h2];rfl
theorem aDt (s:Bt) (w:World) (hs:s.size≤1000000) (hE:pB w):Calls prog 193 #[.string s] w (aEs s w):=by
 obtain ⟨⟨t,p,h1⟩,⟨t',p',h2⟩⟩:=hE;cases h:Lib.atoiAll s.data.toList with
 | ok v=>
  refine (Any.strconv_Atoi_ok zN s (by omega) v h w).mono fun e w' q=>⟨v,.nilIface,q.1,IY (Lib.atoiAll_bounds h).1 (Lib.atoiAll_bounds h).2,.inl rfl,(fun u hu=>by rw [h] at hu;cases hu;exact ⟨rfl,rfl⟩),?_⟩
  rcases q.2 with rfl | ⟨t,rfl⟩
  ·exact Br _ _
  ·exact Lib.bytesWorld_below _ _ _
 | «syntax»=>
  refine (Any.strconv_Atoi_syntax zN s (by omega) h _ w h1 (.inr ⟨t,p,rfl⟩)).mono fun e w' q=>?_
  obtain ⟨N,rfl,-,-,hb⟩:=q;exact ⟨_,_,rfl,by decide,.inr ⟨_,_,rfl⟩,(fun u hu=>by rw [h] at hu;cases hu),hb⟩
 | range=>
  refine (Any.strconv_Atoi_range zN s (by omega) h _ w h2 (.inr ⟨t',p',rfl⟩)).mono fun e w' q=>?_
  obtain ⟨N,rfl,-,-,hb⟩:=q;exact ⟨_,_,rfl,IY (Lib.atoiSat_bounds _).1 (Lib.atoiSat_bounds _).2,.inr ⟨_,_,rfl⟩,(fun u hu=>by rw [h] at hu;cases hu),hb⟩
theorem WJ (c:Int) (w:World):Calls prog 179 #[.int .u8 c] w fun e w'=>e=.returned (.int .u8 (bits .or .u8 c 32))∧w=w':=by
 go_enter func179,ntmps179
 go_wp2
 go_ret
 exact ⟨rfl,rfl⟩
def aHf (s:Bt) (w:World) (e:Ending) (w':World):Prop:=∃ (v:Nat) (ev:Value),e=.returned (.tuple #[.int .u64 (v:Int),ev])∧v<256∧(ev=.nilIface∨ev=.iface 194 (Iz 2))∧(∀u,QB s.data.toList=some u→v=u∧ev=.nilIface)∧Below w.heap.size w w'
theorem XF (s:Bt) (w:World) (hs:s.size≤2):Calls prog 151 #[.string s,Iz 16,Iz 8] w (aHf s w):=by
 by_cases hne:s.size=0
 ·have hnil:s.data.toList=[]:=Au.1 (by rw [←Lib.size_eq];exact hne)
  have hemp:s.toList.isEmpty=true:=by rw [Ci,hnil];rfl
  go_enter func151,ntmps151
  go_wp2
  go_ret2
  exact ⟨0,_,rfl,by decide,.inr rfl,(fun u hu=>by rw [hnil] at hu;cases hu),Br _ _⟩
 ·have hemp:s.toList.isEmpty=false:=by
   rw [Ci];cases h:s.data.toList with
   | nil=>have:=Lib.size_eq s;rw [h,Bs] at this;omega
   | cons _ _=>rfl
  have hB:∀j,j<s.size→(Lib.bytesWorld w 5 s).cell? ⟨w.heap.size,j,none⟩=some (.int .u8 (s.data.toList.getD j 0).toNat):=fun j hj=>Lib.bytesWorld_cell w 5 s j hj
  have hcv:=Lib.run_convert_string_bytes (P:=prog) w 9 69 5 s (u:=.string) underlying9 underlying69 underlying5;have hbl:Below w.heap.size w (Lib.bytesWorld w 5 s):=Lib.bytesWorld_below _ _ _;obtain ⟨W1,hW1⟩:∃W1,W1=Lib.bytesWorld w 5 s:=⟨_,rfl⟩;rw [←hW1] at hcv hB hbl;clear hW1;obtain ⟨bs,hL⟩:∃bs,bs=s.data.toList:=⟨_,rfl⟩;have hLn:bs.length=s.size:=by rw [hL,Lib.size_eq]
  have HL:=Hh hL;rw [←hL] at hB;clear hL
  go_enter func151,ntmps151
  go_upto_region 36 with fail
  go_loopw [12,13,101] (fun vu vn vi wr=>∃ (k a:Nat) (z:Int),vu=.bool false∧vn=.int .u64 z∧vi=Iz (k:Int)∧wr=W1∧k≤s.size∧Hid (z=(a:Int)∧a<16 ^ k∧a=XP (bs.take k))) (fun _ _ vi _=>s.size - (intOf vi).toNat)
  case atStart=>exact ⟨0,0,0,rfl,rfl,rfl,rfl,by omega,Hh ⟨rfl,by decide,rfl⟩⟩
  case round=>
   obtain ⟨k,a,z,rfl,rfl,rfl,rfl,hk,hh0⟩:=hrel;obtain ⟨hza,hh⟩:=hh0.o;have hh:=Hh hh;clear hh0
   by_cases hkn:k<s.size
   ·have hc:=hB k hkn
    have hg:bs[k]?=some (bs.getD k 0):=by rw [Ct,Ac (by omega)];rfl
    generalize bs.getD k 0=c at hc hg;have HG:=Hh hg;clear hg hB;have hc256:c.toNat<256:=c.toNat_lt;have ha16:a<16:=by
     have:=hh.o.1;have:16 ^ k≤16 ^ 1:=Cf (by decide) (by omega)
     omega
    have hac:z<1152921504606846976:=by omega
    have hbad:¬ (((48≤c.toNat∧c.toNat≤57)∨(¬ (48≤c.toNat∧c.toNat≤57)∧97≤bits .or .u8 (c.toNat:Int) 32∧bits .or .u8 (c.toNat:Int) 32≤122))∧pQ c.toNat<16)→∀u,¬QB s.data.toList=some u:=by
     intro hno u hu;rw [←HL.o] at hu;obtain ⟨x,hx⟩:=(LH hu).1 c (Aq HG.o);obtain ⟨g1,g2,g3⟩:=oS hx;exact hno ⟨g1,by omega⟩
    have HBAD:=Hh hbad;have HH:=Hh hh.o;have hlo:=bits_lo_u8 .or (c.toNat:Int) 32;have hhi:=bits_hi_u8 .or (c.toNat:Int) 32;have LOW:=Hh (fun wx=>WJ (c.toNat:Int) wx)
    have hdv:¬ (48≤c.toNat∧c.toNat≤57)→pQ c.toNat=(bits .or .u8 (c.toNat:Int) 32).toNat - 87:=fun h=>by unfold pQ;rw [Af h]
    have hdw:(48≤c.toNat∧c.toNat≤57)→pQ c.toNat=c.toNat - 48:=fun h=>by unfold pQ;rw [Am h]
    have h95:c.toNat=95→bits .or .u8 (c.toNat:Int) 32=127:=fun h=>by rw [h];decide
    have NX:Hid (pQ c.toNat<16→a * 16+pQ c.toNat<16 ^ (k+1)∧a * 16+pQ c.toNat=XP (bs.take (k+1))):=Hh fun h=>by
     refine ⟨by rw [Dt];have:=hh.o.1;omega,?_⟩
     rw [Bf,HG.o,Option.toList_some,XO,←hh.o.2]
    clear hbad hh HG;obtain ⟨D,hD⟩:∃D,D=pQ c.toNat:=⟨_,rfl⟩;rw [←hD] at HBAD hdv hdw NX;clear hD;generalize bits .or .u8 (c.toNat:Int) 32=Z at HBAD hlo hhi LOW hdv h95;generalize c.toNat=n at HBAD hlo hhi LOW hdv hdw h95 hc hc256;have hn0:(0:Int)≤(n:Int):=by omega
    have hn1:(n:Int)<256:=by omega
    have ha0:(0:Int)≤z:=by omega
    have HZA:=Hh hza
    by_cases hdig:48≤n∧n≤57
    ·have hDn:=hdw hdig
     have q1:(48:Int)≤(n:Int):=by omega
     have q2:(n:Int)≤57:=by omega
     have q3:((n:Int) == 95)=false:=by simp;omega
     obtain ⟨dz,hdz⟩:∃dz:Int,dz=(D:Int):=⟨_,rfl⟩;obtain ⟨nz,hnz⟩:∃nz:Int,nz=((a * 16+D:Nat):Int):=⟨_,rfl⟩;have w0:(n:Int) - 48=dz:=by omega
     have w2:IntKind.u64.wrap (z * 16)=z * 16:=by rw [Bw];omega
     have w3:IntKind.u64.wrap (z * 16+dz)=nz:=by rw [Bw];omega
     have w4:z * 16+dz=nz:=by omega
     have q4:dz<16:=by omega
     have q5:(0:Int)≤dz:=by omega
     have q6:¬nz<z * 16:=by omega
     have q7:nz≤255:=by omega
     have q8:¬ (255:Int)<nz:=by omega
     have NX2:=Hh (NX.o (by omega))
     have HNZ:=Hh hnz;clear NX hdv hdw h95 HBAD hDn hlo hhi LOW hdig hza ha16 hdz hnz HH
     go_wp2
     go_roundw
     case rel=>exact ⟨k+1,a * 16+D,nz,rfl,rfl,by go_num,trivial,by omega,Hh ⟨HNZ.o,NX2.o⟩⟩
     case measure=>simp [intOf];omega
    ·have hDn:=hdv hdig
     have hdg:¬ (48:Int)≤(n:Int)∨¬ (n:Int)≤57:=by omega
     by_cases hlet:97≤Z∧Z≤122
     ·have q3:((n:Int) == 95)=false:=by
       have:n ≠ 95:=fun e=>by have:=h95 e;omega
       simp;omega
      obtain ⟨l1,l2⟩:=hlet;obtain ⟨dz,hdz⟩:∃dz:Int,dz=(D:Int):=⟨_,rfl⟩;have w0:Z - 97+10=dz:=by omega
      have w1:IntKind.u8.wrap (Z - 97)=Z - 97:=by rw [Dd];omega
      have w2:IntKind.u8.wrap (Z - 97+10)=dz:=by rw [Dd];omega
      have w4:IntKind.u8.wrap dz=dz:=by rw [Dd];omega
      have q5:(0:Int)≤dz:=by omega
      have q6:dz≤35:=by omega
      by_cases hd16:D<16
      ·obtain ⟨nz,hnz⟩:∃nz:Int,nz=((a * 16+D:Nat):Int):=⟨_,rfl⟩
       have w5:IntKind.u64.wrap (z * 16)=z * 16:=by rw [Bw];omega
       have w6:IntKind.u64.wrap (z * 16+dz)=nz:=by rw [Bw];omega
       have w7:z * 16+dz=nz:=by omega
       have q4:dz<16:=by omega
       have q7:¬nz<z * 16:=by omega
       have q8:nz≤255:=by omega
       have NX2:=Hh (NX.o (by omega))
       have HNZ:=Hh hnz;clear NX hdv hdw h95 HBAD hDn hza ha16 hdz hnz HH hd16 hdig;rcases hdg with q1 | q1
       ·go_wp2_with (go_at_call 179;(with_reducible refine (LOW.o _).mono ?_);rintro e w1 ⟨rfl,rfl⟩)
        go_roundw
        case rel=>exact ⟨k+1,a * 16+D,nz,rfl,rfl,by go_num,trivial,by omega,Hh ⟨HNZ.o,NX2.o⟩⟩
        case measure=>simp [intOf];omega
       ·have q0:(48:Int)≤(n:Int):=by omega
        go_wp2_with (go_at_call 179;(with_reducible refine (LOW.o _).mono ?_);rintro e w1 ⟨rfl,rfl⟩)
        go_roundw
        case rel=>exact ⟨k+1,a * 16+D,nz,rfl,rfl,by go_num,trivial,by omega,Hh ⟨HNZ.o,NX2.o⟩⟩
        case measure=>simp [intOf];omega
      ·have q4:¬dz<16:=by omega
       have HB2:=Hh (HBAD.o (fun h=>hd16 h.2))
       clear NX hdv hdw h95 HBAD hDn hza ha16 hdz HH hd16 hdig;rcases hdg with q1 | q1
       ·go_wp2_with (go_at_call 179;(with_reducible refine (LOW.o _).mono ?_);rintro e w1 ⟨rfl,rfl⟩)
        go_ret2
        exact ⟨0,_,rfl,by decide,.inr rfl,(fun u hu=>absurd hu (HB2.o u)),hbl⟩
       ·have q0:(48:Int)≤(n:Int):=by omega
        go_wp2_with (go_at_call 179;(with_reducible refine (LOW.o _).mono ?_);rintro e w1 ⟨rfl,rfl⟩)
        go_ret2
        exact ⟨0,_,rfl,by decide,.inr rfl,(fun u hu=>absurd hu (HB2.o u)),hbl⟩
     ·have HB2:=Hh (HBAD.o (fun h=>h.1.elim hdig (fun h=>hlet h.2)))
      clear NX hdv hdw h95 HBAD hDn hza ha16 HH hdig;have hlt:¬97≤Z∨¬Z≤122:=by omega
      rcases hlt with l1 | l1
      ·rcases hdg with q1 | q1
       ·by_cases h95:n=95
        ·omega
        ·have q3:((n:Int) == 95)=false:=by simp;omega
         go_wp2_with (go_at_call 179;(with_reducible refine (LOW.o _).mono ?_);rintro e w1 ⟨rfl,rfl⟩)
         go_ret2
         exact ⟨0,_,rfl,by decide,.inr rfl,(fun u hu=>absurd hu (HB2.o u)),hbl⟩
       ·have q0:(48:Int)≤(n:Int):=by omega
        by_cases h95:n=95
        ·subst h95
         have L2:Hid (∀wx:World,Calls prog 179 #[.int .u8 95] wx fun e w'=>e=.returned (.int .u8 Z)∧wx=w'):=LOW
         go_wp2_with (go_at_call 179;(with_reducible refine (L2.o _).mono ?_);rintro e w1 ⟨rfl,rfl⟩)
         go_ret2
         exact ⟨0,_,rfl,by decide,.inr rfl,(fun u hu=>absurd hu (HB2.o u)),hbl⟩
        ·have q3:((n:Int) == 95)=false:=by simp;omega
         go_wp2_with (go_at_call 179;(with_reducible refine (LOW.o _).mono ?_);rintro e w1 ⟨rfl,rfl⟩)
         go_ret2
         exact ⟨0,_,rfl,by decide,.inr rfl,(fun u hu=>absurd hu (HB2.o u)),hbl⟩
      ·rcases hdg with q1 | q1
       ·have q3:((n:Int) == 95)=false:=by simp;omega
        have l2:97≤Z:=by omega
        go_wp2_with (go_at_call 179;(with_reducible refine (LOW.o _).mono ?_);rintro e w1 ⟨rfl,rfl⟩)
        go_ret2
        exact ⟨0,_,rfl,by decide,.inr rfl,(fun u hu=>absurd hu (HB2.o u)),hbl⟩
       ·have q0:(48:Int)≤(n:Int):=by omega
        have l2:97≤Z:=by omega
        by_cases h95:n=95
        ·subst h95
         have L2:Hid (∀wx:World,Calls prog 179 #[.int .u8 95] wx fun e w'=>e=.returned (.int .u8 Z)∧wx=w'):=LOW
         go_wp2_with (go_at_call 179;(with_reducible refine (L2.o _).mono ?_);rintro e w1 ⟨rfl,rfl⟩)
         go_ret2
         exact ⟨0,_,rfl,by decide,.inr rfl,(fun u hu=>absurd hu (HB2.o u)),hbl⟩
        ·have q3:((n:Int) == 95)=false:=by simp;omega
         go_wp2_with (go_at_call 179;(with_reducible refine (LOW.o _).mono ?_);rintro e w1 ⟨rfl,rfl⟩)
         go_ret2
         exact ⟨0,_,rfl,by decide,.inr rfl,(fun u hu=>absurd hu (HB2.o u)),hbl⟩
   ·have hkk:k=s.size:=by omega
    subst hkk;have HF:Hid (a<256∧∀u,QB s.data.toList=some u→a=u):=by
     refine Hh ⟨?_,fun u hu=>?_⟩
     ·have:=hh.o.1
      have:16 ^ s.size≤16 ^ 2:=Cf (by decide) hs
      omega
     ·rw [←HL.o] at hu
      rw [hh.o.2,(LH hu).2.1,Ao (by omega)]
    subst hza;clear hh
    go_wp2
    go_ret2
    exact ⟨a,_,rfl,HF.o.1,.inl rfl,fun u hu=>⟨HF.o.2 u hu,rfl⟩,hbl⟩
def aIy (s:Bt) (w:World) (e:Ending) (w':World):Prop:=∃ (v:Nat) (ev:Value),e=.returned (.tuple #[.int .u64 (v:Int),ev])∧v<256∧aJy ev∧(∀u,QB s.data.toList=some u→v=u∧ev=.nilIface)∧Below w.heap.size w w'
theorem aAe (s:Bt) (w:World) (hs:s.size≤2) (hE:pB w):Calls prog 206 #[.string s,Iz 16,Iz 8] w (aIy s w):=by
 have I:=Hh (XF s w hs);have HE:=Hh hE;clear hE
 go_enter func206,ntmps206
 go_upto_region 2 with ((with_reducible refine (I.o).mono ?_);rintro e w1 ⟨v,ev,rfl,hv,hev,hh,hb⟩)
 have HV:=Hh (Ai hv hh);clear hv hh I;rcases hev with rfl | rfl
 ·go_wp2
  go_ret2
  exact ⟨v,_,rfl,HV.o.1,.inl rfl,(fun u hu=>⟨(HV.o.2 u hu).1,rfl⟩),hb⟩
 ·obtain ⟨⟨t,p,h1⟩,-⟩:=HE.o.below hb
  have T:Hid (Calls prog 136 #[.string ⟨#[80,97,114,115,101,85,105,110,116]⟩,.string s,Iz 16,Iz 8,.iface 194 (Iz 2)] w1 fun e w'=>(∃t p,e=.returned (.iface t p))∧Below w1.heap.size w1 w'):=(Any.strconv_toError_syntax aBn ⟨#[80,97,114,115,101,85,105,110,116]⟩ s 16 8 _ w1 (by omega) h1 (.inr ⟨t,p,rfl⟩)).mono fun e w' ⟨N,h,_,_,hb⟩=>⟨⟨_,_,h⟩,hb⟩
  clear h1
  go_wp2_with (go_at_call 136;(with_reducible refine (T.o).mono ?_);rintro e w2 ⟨⟨t2,p2,rfl⟩,hb2⟩)
  go_ret2
  exact ⟨v,_,rfl,HV.o.1,.inr ⟨_,_,rfl⟩,(fun u hu=>by have:=(HV.o.2 u hu).2;cases this),hb.trans (hb2.mono hb.size)⟩
end Go.Proofs.YtncdpanfefnjlaaGreatDoor
namespace Go.Proofs.YtncdpanfefnjlaaGreatDoor
open Go.Proofs.Tryz
open Go Go.Maps Go.ChangeShapes Go.WideShapes Go.ChangeAt Go.RowKit
def vR:Ub:=[110,117,108,108]
def mD:Ub:=[102,97,108,115,101]
def rT:Ub:=[116,114,117,101]
def EH:DataW Unit:=(((DataW.map []).put (.string vR) (.lit (.int .i64 0))).put (.string mD) (.lit (.int .i64 1))).put (.string rT) (.lit (.int .i64 2))
def iT (l:Ub):Option ND:=if l=rT then some (.mk 1 true 0 ⟨#[]⟩ [] []) else if l=mD then some (.mk 1 false 0 ⟨#[]⟩ [] []) else if l=vR then some nd0 else none
theorem NH (l:Ub):Maps.has EH (.string l)=(iT l).isSome∧EH.atKey (.string l) (.lit (.int .i64 0))=.lit (.int .i64 (if l=rT then 2 else if l=mD then 1 else 0)):=by
 have i0:IsMap (.map []:DataW Unit):=isMap_empty;have i1:=i0.put (.string vR) (.lit (.int .i64 0));have i2:=i1.put (.string mD) (.lit (.int .i64 1));unfold EH;refine ⟨?_,?_⟩
 ·rw [oD i2,oD i1,oD i0,show Maps.has (.map []:DataW Unit) (.string l)=false from rfl]
  unfold iT
  by_cases h1:l=rT
  ·subst h1;rfl
  by_cases h2:l=mD
  ·subst h2;rfl
  by_cases h3:l=vR
  ·subst h3;rfl
  simp [h1,h2,h3]
 ·rw [sF i2,sF i1,sF i0,show (.map []:DataW Unit).atKey (.string l) (.lit (.int .i64 0))=.lit (.int .i64 0) from rfl]
  by_cases h1:l=rT
  ·rw [Am h1,Am h1]
  by_cases h2:l=mD
  ·rw [Af h1,Af h1,Am h2,Am h2]
  rw [Af h1,Af h1,Af h2,Af h2,ite_self]
def nO:Ub→Option UInt8
 | [x]=>uO x
 | _=>none
theorem QU:∀c:UInt8,∀l,kH (c.toNat:Int)=some l→uO l=some c:=by
 have:∀n:Fin 256,∀l,kH ((UInt8.ofNat n.1).toNat:Int)=some l→uO l=some (UInt8.ofNat n.1):=by
  intro n l h;have:∀n:Fin 256,(kH ((UInt8.ofNat n.1).toNat:Int)).isSome=true→uO ((kH ((UInt8.ofNat n.1).toNat:Int)).getD 0)=some (UInt8.ofNat n.1):=by decide +kernel
  have:=this n (by rw [h];rfl)
  rw [h] at this;exact this
 intro c l h;have hc:=this ⟨c.toNat,c.toNat_lt⟩ l;rw [show UInt8.ofNat c.toNat=c from Dj] at hc
 exact hc h
theorem mY:∀l c:UInt8,uO l=some c→kH (c.toNat:Int)=some l:=by
 have:∀n:Fin 256,∀c,uO (UInt8.ofNat n.1)=some c→kH (c.toNat:Int)=some (UInt8.ofNat n.1):=by
  intro n c h;have:∀n:Fin 256,(uO (UInt8.ofNat n.1)).isSome=true→kH (((uO (UInt8.ofNat n.1)).getD 0).toNat:Int)=some (UInt8.ofNat n.1):=by decide +kernel
  have:=this n (by rw [h];rfl)
  rw [h] at this;exact this
 intro l c h;have hc:=this ⟨l.toNat,l.toNat_lt⟩ c;rw [show UInt8.ofNat l.toNat=l from Dj] at hc
 exact hc h
def tI (D:DataW Unit) (left:Lit→Bool):Prop:=(∀l,Maps.has D (.string l)=true↔∃c:UInt8,nO l=some c∧left (.int .u8 (c.toNat:Int))=false)∧∀l (c:UInt8),nO l=some c→left (.int .u8 (c.toNat:Int))=false→∀z,D.atKey (.string l) z=.lit (.int .u8 (c.toNat:Int))
theorem TY (w:World):(zeroValue 28).run prog w=.ok (fL 0 false) w:=by kernel_rfl
theorem aEt (w:World):(zeroValue 5).run prog w=.ok (.int .u8 0) w:=by kernel_rfl
def tA (w:World) (m:Nat):Prop:=w.ownsMap prog 9 iU m 3 EH
theorem tA.same {w w':World} {m:Nat} (h:tA w m) (hb:w'.heap[m]?=w.heap[m]?):tA w' m:=by
 obtain ⟨es,clock,h1,F,hs,hD⟩:=h;exact ⟨es,clock,hb.trans h1,F,hs,hD⟩
theorem tA.lt {w:World} {m:Nat} (h:tA w m):m<w.heap.size:=World.ownsMap.lt h
theorem tA.look {w:World} {m:Nat} (h:tA w m) {s:Bt} (hs:s.size≤maxLen):(Instr.lookup 172 (.map (some m)) (.string s) true).run prog w=.ok (.tuple #[fL (((iT s.data.toList).getD nd0).kind) (((iT s.data.toList).getD nd0).bool),.bool (iT s.data.toList).isSome]) w:=by
 obtain ⟨v,ps,hrun,hv⟩:=World.ownsMap.look_ok h kQ underlying172 (TY w) mQ (Cj underlying9 hs);obtain ⟨l1,l2⟩:=NH s.data.toList;rw [l2] at hv;rw [hrun,l1];obtain ⟨q0,q1,q2⟩:=BP hv;have:v=fL (((iT s.data.toList).getD nd0).kind) (((iT s.data.toList).getD nd0).bool):=by
  by_cases h1:s.data.toList=rT
  ·rw [q2 (by rw [Am h1])];unfold iT;rw [Am h1];rfl
  by_cases h2:s.data.toList=mD
  ·rw [q1 (by rw [Af h1,Am h2])];unfold iT;rw [Af h1,Am h2];rfl
  rw [q0 (by rw [Af h1,Af h2])];unfold iT;rw [Af h1,Af h2]
  by_cases h3:s.data.toList=vR
  ·rw [Am h3];rfl
  ·rw [Af h3];rfl
 rw [this]
theorem UE (w:World):Calls prog 142 #[] w fun e w'=>e=.returned (.map (some w.heap.size))∧tA w' w.heap.size∧Below w.heap.size w w':=by
 have hmm:=@run_makeMap prog;have h0:=World.ownsMap_made (H:=Unit) w prog 9 iU;have b0:=(Br w.heap.size w).alloc (o:=.map #[] 0) (Lr _);have H0:=Hh h0;have B0:=Hh b0;clear h0 b0
 go_enter func142,ntmps142
 go_wp2_with (first
  | (refine bU _ rfl _ _ _ 172 rfl 9 28 kQ underlying172 _ w.heap.size 2 _ rfl h2 (by unfold maxLen;omega) _ _ _ rfl rfl (Cj underlying9 (s:=⟨#[116,114,117,101]⟩) (by decide)) _ [] xO ?_;intro w3 h3 g3;(have b3:=fU b2 g3 (b2.size) (Lr _)))
  | (refine bU _ rfl _ _ _ 172 rfl 9 28 kQ underlying172 _ w.heap.size 1 _ rfl h1 (by unfold maxLen;omega) _ _ _ rfl rfl (Cj underlying9 (s:=⟨#[102,97,108,115,101]⟩) (by decide)) _ [] vF ?_;intro w2 h2 g2;(have b2:=fU b1 g2 (b1.size) (Lr _)))
  | (refine bU _ rfl _ _ _ 172 rfl 9 28 kQ underlying172 _ w.heap.size 0 _ rfl H0.o (by unfold maxLen;omega) _ _ _ rfl rfl (Cj underlying9 (s:=⟨#[110,117,108,108]⟩) (by decide)) _ [] mQ ?_;intro w1 h1 g1;(have b1:=fU B0.o g1 (B0.o.size) (Lr _))))
 go_ret
 exact ⟨rfl,h3,b3⟩
def tJ (w:World) (m:Nat):Prop:=∃D n,w.ownsMap prog 9 (plainElem (H:=Unit) prog 5) m n D∧tI D fun _=>false
theorem tJ.same {w w':World} {m:Nat} (h:tJ w m) (hb:w'.heap[m]?=w.heap[m]?):tJ w' m:=by
 obtain ⟨D,n,⟨es,clock,h1,F,hs,hD⟩,hc⟩:=h;exact ⟨D,n,⟨es,clock,hb.trans h1,F,hs,hD⟩,hc⟩
theorem tJ.lt {w:World} {m:Nat} (h:tJ w m):m<w.heap.size:=by obtain ⟨D,n,h,-⟩:=h;exact World.ownsMap.lt h
theorem tJ.look {w:World} {m:Nat} (h:tJ w m) {s:Bt} (hs:s.size≤maxLen):∃c:Nat,c<256∧(Instr.lookup 174 (.map (some m)) (.string s) true).run prog w=.ok (.tuple #[.int .u8 (c:Int),.bool (nO s.data.toList).isSome]) w∧∀x,nO s.data.toList=some x→c=x.toNat:=by
 obtain ⟨D,n,h,hc1,hc2⟩:=h;obtain ⟨v,ps,hrun,hv⟩:=World.ownsMap.look_ok h kQ underlying174 (aEt w) (plainElem_int underlying5 (by decide)) (Cj underlying9 hs)
 obtain ⟨c,rfl,e',hw⟩:=plainElem_int_inv underlying5 hv;have hr:0≤c∧c<256:=by
  simp [Lit.wf,IntKind.min,IntKind.max,IntKind.signed,IntKind.bits] at hw;omega
 have hh:Maps.has D (.string s.data.toList)=(nO s.data.toList).isSome:=by
  cases q:nO s.data.toList with
  | none=>
   cases q2:Maps.has D (.string s.data.toList) with
   | false=>rfl
   | true=>
    obtain ⟨c,e,-⟩:=(hc1 _).1 q2;rw [q] at e;cases e
  | some x=>exact (hc1 _).2 ⟨x,q,rfl⟩
 refine ⟨c.toNat,by omega,?_,fun x hx=>?_⟩
 ·rw [hrun,hh,show ((c.toNat:Nat):Int)=c by omega]
 ·rw [hc2 _ x hx rfl] at e'
  simp only [Dn,Cx,Lit.int.injEq] at e';omega
theorem BE (left:Lit→Bool) (h:∀c:UInt8,(kH (c.toNat:Int)).isSome=true→left (.int .u8 (c.toNat:Int))=true):tI (.map []) left:=by
 refine ⟨fun l=>⟨fun e=>(by cases e),?_⟩,fun l c e e2=>?_⟩
 ·rintro ⟨c,e,e2⟩
  rw [h c (by
   have:∃x,l=[x]∧uO x=some c:=by
    unfold nO at e
    split at e
    ·exact ⟨_,rfl,e⟩
    ·cases e
   obtain ⟨x,-,hx⟩:=this;rw [mY x c hx];rfl)] at e2
  cases e2
 ·rw [h c (by
   have:∃x,l=[x]∧uO x=some c:=by
    unfold nO at e
    split at e
    ·exact ⟨_,rfl,e⟩
    ·cases e
   obtain ⟨x,-,hx⟩:=this;rw [mY x c hx];rfl)] at e2
  cases e2
theorem GH {D:DataW Unit} {left:Lit→Bool} (hD:IsMap D) (h:tI D left) {x:UInt8} {l:UInt8} (hx:kH (x.toNat:Int)=some l) (hl:left (.int .u8 (x.toNat:Int))=true):tI (D.put (.string [l]) (.lit (.int .u8 (x.toNat:Int)))) (fun z=>left z && !z.sameKey (.int .u8 (x.toNat:Int))):=by
 have hcl:=QU x l hx;have hsk:∀c:UInt8,(Lit.int .u8 (c.toNat:Int)).sameKey (.int .u8 (x.toNat:Int))=decide (c=x):=by
  intro c
  show decide (IntKind.u8=IntKind.u8∧(c.toNat:Int)=(x.toNat:Int))=_
  by_cases e:c=x
  ·subst e;simp
  ·rw [Ap e,Ap]
   rintro ⟨-,h⟩;exact e (UInt8.toNat_inj.1 (by omega))
 refine ⟨fun k=>?_,fun k c hc hf z=>?_⟩
 ·rw [oD hD,Dw,Av,h.1 k]
  constructor
  ·rintro (rfl | ⟨c,e,f⟩)
   ·exact ⟨x,hcl,by show (left _ && !_)=false;rw [hsk,An rfl];simp⟩
   ·exact ⟨c,e,by show (left _ && !_)=false;rw [f];rfl⟩
  ·rintro ⟨c,e,f⟩
   replace f:(left (.int .u8 (c.toNat:Int)) && !(Lit.int .u8 (c.toNat:Int)).sameKey (.int .u8 (x.toNat:Int)))=false:=f
   rw [hsk] at f
   by_cases ec:c=x
   ·subst ec
    left
    unfold nO at e
    split at e
    ·rename_i y
     have:=mY y c e;rw [hx] at this;cases this;rfl
    ·cases e
   ·rw [Ap ec] at f
    right
    exact ⟨c,e,by simpa using f⟩
 ·rw [sF hD]
  replace hf:(left (.int .u8 (c.toNat:Int)) && !(Lit.int .u8 (c.toNat:Int)).sameKey (.int .u8 (x.toNat:Int)))=false:=hf
  rw [hsk] at hf
  by_cases ek:k=[l]
  ·rw [Am ek]
   subst ek;have:some x=some c:=by rw [←hc];exact hcl.symm
   cases this;rfl
  ·rw [Af ek]
   refine h.2 k c hc ?_ z
   by_cases ec:c=x
   ·subst ec
    exfalso
    apply ek
    unfold nO at hc
    split at hc
    ·rename_i y
     have:=mY y c hc;rw [hx] at this;cases this;rfl
    ·cases hc
   ·rw [Ap ec] at hf
    simpa using hf
theorem YF (w:World):Calls prog 143 #[] w fun e w'=>e=.returned (.map (some w.heap.size))∧tJ w' w.heap.size∧Below w.heap.size w w':=by
 have hmm:=@run_makeMap prog;have h0:=World.ownsMap_made (H:=Unit) w prog 9 (plainElem (H:=Unit) prog 5);have b0:=(Br w.heap.size w).alloc (o:=.map #[] 0) (Lr _);have hz0:(w.alloc (.map #[] 0)).heap.size=w.heap.size+1:=by simp
 have H0:=Hh h0;have B0:=Hh b0;have l0:=vU (w.alloc (.map #[] 0));obtain ⟨m,hm⟩:∃m,m=w.heap.size+1:=⟨_,rfl⟩;rw [hz0,←hm] at l0;have L:=Hh l0;have HZ:=Hh hz0;have HM:=Hh hm;clear l0 hm hz0;clear h0 b0
 go_enter func143,ntmps143
 go_upto_region 2 with fail
 go_wp2_with (first
  | (go_at_call 139;(with_reducible refine (L.o).mono ?_);rintro e w2 ⟨rfl,hl2,hb2⟩)
  | (at_range;refine wpList_range_own _ rfl _ 165 rfl 5 9 qB underlying165 _ _ 7 _ rfl hl2 ?_;intro w3 hrg0 hg0 hs0)
  | go_in)
 go_frame
 have hz0:=HZ.o;have hm:=HM.o;have hmz:m=w.heap.size+1:=hm;have hb03:=hb2.grown hg0 (by rw [←hz0] at hm;rw [hm];exact hb2.size) (fun j hj=>by cases hj)
 have hown3:w3.ownsMap prog 9 (plainElem (H:=Unit) prog 5) w.heap.size 0 (.map []):=H0.o.kept (aK hb03 (by rw [hz0,hm];exact Lr _) none) (by simp)
 have hB3:=B0.o.trans (hb03.mono (by omega))
 have hr:m<w2.heap.size:=by have:=hl2.lt;exact this
 obtain ⟨r,hrr⟩:∃r,r=w2.heap.size:=⟨_,rfl⟩;rw [←hrr] at hrg0 hs0 hr ⊢;have hwm:w.heap.size<m:=by omega
 clear hb2 hl2 hg0 L hm hb03 hmz hz0 hrr HM HZ
 go_loopw [2,3] (fun _ _ wr=>∃ (left:Lit→Bool) (cnt:Nat) (Dout:DataW Unit) (n:Nat),wr.ranges prog 5 (plainElem (H:=Unit) prog 9) m r 7 oI left cnt∧n+cnt≤7 ∧
  wr.ownsMap prog 9 (plainElem (H:=Unit) prog 5) w.heap.size n Dout∧tI Dout left∧Below w.heap.size w wr)
  (fun _ _ wr=>wr.rangeLeft m r)
 case atStart=>
  refine ⟨_,_,.map [],0,hrg0,by decide +kernel,hown3,BE _ fun c hc=>?_,hB3⟩
  rw [(kP _).1];exact hc
 case round=>
  obtain ⟨left,cnt,Dout,n,hrg,hcs,hout,hA,hnx⟩:=hrel
  go_wp2_with (first
   | (at_next;refine wpList_next_ranges_is _ rfl _ rfl 5 9 .u8 qB underlying5 underlying9 m r 7 _ _ _ rfl hrg ?_ ?_)
   | go_in)
  ·intro hc0 hl0
   go_wp2
   go_ret
   refine ⟨rfl,⟨Dout,n,hout,?_⟩,hnx⟩
   rwa [show left=fun _=>false from funext hl0] at hA
  ·intro x c w1 cnt1 hwx hwc hlx hat hrg1 hlt hg1 hs1 hen
   have hout1:=hout.kept hg1 (by intro e;have:=Ab e;omega)
   have hxr:0≤x∧x<256:=by
    simp [Lit.wf,IntKind.min,IntKind.max,IntKind.signed,IntKind.bits] at hwx;omega
   obtain ⟨xb,hxb⟩:∃xb:UInt8,(xb.toNat:Int)=x:=⟨UInt8.ofNat x.toNat,by rw [Be];omega⟩
   obtain ⟨l,hl⟩:∃l,kH (xb.toNat:Int)=some l:=by
    have h:=(kP x).2 (.lit (.bool true));rw [hat] at h;rw [hxb];cases q:kH x with
    | none=>rw [q] at h;cases h
    | some l=>exact ⟨l,rfl⟩
   have hcl:c.data.toList=[l]:=by
    have h:=(kP x).2 (.lit (.bool true));rw [hat,←hxb,hl] at h;simp only [Cx,Lit.string.injEq] at h;exact h
   rw [←hxb] at hlx hrg1 hen ⊢;have hA2:=GH hout.isMap hA hl hlx;have hxw:(Lit.int IntKind.u8 (xb.toNat:Int)).wf=true:=by rw [hxb];exact hwx
   rw [←hcl] at hA2;clear hl hat hwx hxr hcl hA hxb hlx;have HA2:=Hh hA2;clear hA2
   go_wp2_with (first
    | (at_mapUpdate;refine Dk _ rfl _ _ _ 174 rfl 9 5 kQ underlying174 _ w.heap.size _ _ rfl hout1 (by unfold maxLen;omega) _ _ _ rfl rfl (Cj underlying9 hwc) _ [] (plainElem_int underlying5 hxw) ?_;intro w2 hout2 hg2;go_frame)
    | go_in)
   have hrg2:=hrg1.kept hg2 (fun e=>by have:=Ab e;omega) (fun e=>by have:=Ab e;omega)
   go_roundw
   case rel=>
    exact ⟨_,cnt1,_,n+1,hrg2,by omega,hout2,HA2.o,(hnx.grown hg1 hnx.size (fun j hj=>by cases hj;omega)).grown hg2 (by rw [hs1];exact hnx.size) (fun j hj=>by cases hj;exact Lr _)⟩
   case measure=>rw [hrg2.left_eq,hrg.left_eq];exact hlt
end Go.Proofs.YtncdpanfefnjlaaGreatDoor