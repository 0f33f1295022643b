import Derived.Test.YtncdpanfefnjlaaGreatDoorVhx
set_option linter.unusedVariables false
set_option linter.unusedSimpArgs false
set_option maxHeartbeats 6400000
set_option maxRecDepth 1000000
namespace Go.Proofs.YtncdpanfefnjlaaGreatDoor
open Go.Proofs.Tryz
open Go Go.ChangeShapes Go.WideShapes Go.ChangeAt Go.RowKit
def vdV (n:Nat):Nat:=if 48≤n∧n≤57 then n - 48 else (bits .or .u8 (n:Int) 32).toNat - 87
theorem RY {c:UInt8} {x:Nat} (h:vhD c=some x):((48≤c.toNat∧c.toNat≤57)∨(¬ (48≤c.toNat∧c.toNat≤57)∧97≤bits .or .u8 (c.toNat:Int) 32∧bits .or .u8 (c.toNat:Int) 32≤122))∧vdV c.toNat=x∧x<16:=by
 have:∀n:Fin 256,(vhD (UInt8.ofNat n.1)).isSome=true→((48≤n.1∧n.1≤57)∨(¬ (48≤n.1∧n.1≤57)∧97≤bits .or .u8 (n.1:Int) 32∧bits .or .u8 (n.1:Int) 32≤122))∧vdV n.1=(vhD (UInt8.ofNat n.1)).getD 0∧(vhD (UInt8.ofNat n.1)).getD 0<16:=by decide +kernel
 have hc:=this ⟨c.toNat,c.toNat_lt⟩;rw [show UInt8.ofNat c.toNat=c from Dj,h] at hc
 exact hc rfl
def vhV (l:Ub):Nat:=l.foldl (fun a c=>a * 16+vdV c.toNat) 0
theorem JA (l:Ub) (c:UInt8):vhV (l++[c])=vhV l * 16+vdV c.toNat:=by unfold vhV;rw [List.foldl_append];rfl
theorem EJ:∀ {l:Ub} {v:Nat},vhN l=some v→(∀c,c ∈ l→∃x,vhD c=some x)∧v=vhV l:=by
 have key:∀ (k:Nat) (l:Ub) (v:Nat),l.length=k→vhN l=some v→(∀c,c ∈ l→∃x,vhD c=some x)∧v=vhV l:=by
  intro k
  induction k with
  | zero=>
   intro l v hl h;rw [Au.1 hl] at h ⊢;cases h;exact ⟨fun c hc=>(by cases hc),rfl⟩
  | succ k ih=>
   intro l v hl h;have hne:l ≠ []:=by intro e;subst e;cases hl
   rw [←List.dropLast_concat_getLast hne] at h ⊢;have hdl:l.dropLast.length=k:=by rw [List.length_dropLast];omega
   generalize l.dropLast=t at h hdl ⊢;generalize l.getLast hne=c at h ⊢;rw [xS] at h;cases ht:vhN t with
   | none=>rw [ht] at h;cases h
   | some m=>
    cases hd:vhD c with
    | none=>rw [ht,hd] at h;cases h
    | some d=>
     rw [ht,hd] at h;have h:16 * m+d=v:=Ab h;obtain ⟨i1,i2⟩:=ih t m hdl ht;refine ⟨fun x hx=>?_,?_⟩
     ·rcases Bb.1 hx with hx | hx
      ·exact i1 x hx
      ·cases At.1 hx;exact ⟨d,hd⟩
     ·rw [JA,(RY hd).2.1,←i2,←h];omega
 intro l v h;exact key _ l v rfl h
def AP (w:World):Prop:=∃t p,w.cell? ⟨6,0,none⟩=some (.iface t p)
theorem AP.below {w w':World} (h:AP w) (hb:Below w.heap.size w w'):AP w':=by
 obtain ⟨t,p,h1⟩:=h;exact ⟨t,p,(hb.cell (p:=⟨_,0,none⟩) (cD h1)).trans h1⟩
theorem NU (c:Int) (w:World):Calls prog 179 #[.int .u8 c] w fun e w'=>e=.returned (.int .u8 (bits .or .u8 c 32))∧w=w':=by
 go_enter func179,ntmps179
 go_wp2
 go_ret
 exact ⟨rfl,rfl⟩
def aDy (s:Bt) (w:World) (e:Ending) (w':World):Prop:=∃ (v:Nat) (ev:Value),e=.returned (.tuple #[.int .u64 (v:Int),ev])∧v<16777216∧(ev=.nilIface∨ev=.iface 194 (Iz 2))∧(∀u,vhN s.data.toList=some u→0<s.size→v=u∧ev=.nilIface)∧Below w.heap.size w w'
theorem ZE (s:Bt) (w:World) (hs:s.size≤6):Calls prog 151 #[.string s,Iz 16,Iz 64] w (aDy s w):=by
 have qm:IntKind.u64.wrap (IntKind.u64.wrap 18446744073709551616 - 1)=18446744073709551615:=by decide
 by_cases hne:s.size=0
 ·have hnil:s.data.toList=[]:=Au.1 (by rw [←Lib.size_eq];exact hne)
  have hemp:s.toList.isEmpty=true:=by rw [Ci,hnil];rfl
  go_enter func151,ntmps151
  go_wp2
  go_ret2
  exact ⟨0,_,rfl,by decide,.inr rfl,(fun u hu h0=>by omega),Br _ _⟩
 ·have hemp:s.toList.isEmpty=false:=by
   rw [Ci];cases h:s.data.toList with
   | nil=>have:=Lib.size_eq s;rw [h,Bs] at this;omega
   | cons _ _=>rfl
  have hB:∀j,j<s.size→(Lib.bytesWorld w 5 s).cell? ⟨w.heap.size,j,none⟩=some (.int .u8 (s.data.toList.getD j 0).toNat):=fun j hj=>Lib.bytesWorld_cell w 5 s j hj
  have hcv:=Lib.run_convert_string_bytes (P:=prog) w 9 69 5 s (u:=.string) underlying9 underlying69 underlying5;have hbl:Below w.heap.size w (Lib.bytesWorld w 5 s):=Lib.bytesWorld_below _ _ _;obtain ⟨W1,hW1⟩:∃W1,W1=Lib.bytesWorld w 5 s:=⟨_,rfl⟩;rw [←hW1] at hcv hB hbl;clear hW1;obtain ⟨bs,hL⟩:∃bs,bs=s.data.toList:=⟨_,rfl⟩;have hLn:bs.length=s.size:=by rw [hL,Lib.size_eq]
  have HL:=Hh hL;rw [←hL] at hB;clear hL
  go_enter func151,ntmps151
  go_upto_region 36 with fail
  go_loopw [12,13,101] (fun vu vn vi wr=>∃ (k a:Nat) (z:Int),vu=.bool false∧vn=.int .u64 z∧vi=Iz (k:Int)∧wr=W1∧k≤s.size∧Hid (z=(a:Int)∧a<16 ^ k∧a=vhV (bs.take k))) (fun _ _ vi _=>s.size - (intOf vi).toNat)
  case atStart=>exact ⟨0,0,0,rfl,rfl,rfl,rfl,by omega,Hh ⟨rfl,by decide,rfl⟩⟩
  case round=>
   obtain ⟨k,a,z,rfl,rfl,rfl,rfl,hk,hh0⟩:=hrel;obtain ⟨hza,hh⟩:=hh0.o;have hh:=Hh hh;clear hh0
   by_cases hkn:k<s.size
   ·have hc:=hB k hkn
    have hg:bs[k]?=some (bs.getD k 0):=by rw [Ct,Ac (by omega)];rfl
    generalize bs.getD k 0=c at hc hg;have HG:=Hh hg;clear hg hB;have hc256:c.toNat<256:=c.toNat_lt;have ha16:a<1048576:=by
     have h1:=hh.o.1;have h2:16 ^ k≤16 ^ 5:=Cf (by decide) (by omega)
     have h3:16 ^ 5=1048576:=by decide
     omega
    have hac:z<1152921504606846976:=by omega
    have hbad:¬ (((48≤c.toNat∧c.toNat≤57)∨(¬ (48≤c.toNat∧c.toNat≤57)∧97≤bits .or .u8 (c.toNat:Int) 32∧bits .or .u8 (c.toNat:Int) 32≤122))∧vdV c.toNat<16)→∀u,¬vhN s.data.toList=some u:=by
     intro hno u hu;rw [←HL.o] at hu;obtain ⟨x,hx⟩:=(EJ hu).1 c (Aq HG.o);obtain ⟨g1,g2,g3⟩:=RY hx;exact hno ⟨g1,by omega⟩
    have HBAD:=Hh hbad;have HH:=Hh hh.o;have hlo:=bits_lo_u8 .or (c.toNat:Int) 32;have hhi:=bits_hi_u8 .or (c.toNat:Int) 32;have LOW:=Hh (fun wx=>NU (c.toNat:Int) wx)
    have hdv:¬ (48≤c.toNat∧c.toNat≤57)→vdV c.toNat=(bits .or .u8 (c.toNat:Int) 32).toNat - 87:=fun h=>by unfold vdV;rw [Af h]
    have hdw:(48≤c.toNat∧c.toNat≤57)→vdV c.toNat=c.toNat - 48:=fun h=>by unfold vdV;rw [Am h]
    have h95:c.toNat=95→bits .or .u8 (c.toNat:Int) 32=127:=fun h=>by rw [h];decide
    have NX:Hid (vdV c.toNat<16→a * 16+vdV c.toNat<16 ^ (k+1)∧a * 16+vdV c.toNat=vhV (bs.take (k+1))):=Hh fun h=>by
     refine ⟨by rw [Dt];have:=hh.o.1;omega,?_⟩
     rw [Bf,HG.o,Option.toList_some,JA,←hh.o.2]
    clear hbad hh HG;obtain ⟨D,hD⟩:∃D,D=vdV c.toNat:=⟨_,rfl⟩;rw [←hD] at HBAD hdv hdw NX;clear hD;generalize bits .or .u8 (c.toNat:Int) 32=Z at HBAD hlo hhi LOW hdv h95;generalize c.toNat=n at HBAD hlo hhi LOW hdv hdw h95 hc hc256;have hn0:(0:Int)≤(n:Int):=by omega
    have hn1:(n:Int)<256:=by omega
    have ha0:(0:Int)≤z:=by omega
    have HZA:=Hh hza
    by_cases hdig:48≤n∧n≤57
    ·have hDn:=hdw hdig
     have q1:(48:Int)≤(n:Int):=by omega
     have q2:(n:Int)≤57:=by omega
     have q3:((n:Int) == 95)=false:=by simp;omega
     obtain ⟨dz,hdz⟩:∃dz:Int,dz=(D:Int):=⟨_,rfl⟩;obtain ⟨nz,hnz⟩:∃nz:Int,nz=((a * 16+D:Nat):Int):=⟨_,rfl⟩;have w0:(n:Int) - 48=dz:=by omega
     have w2:IntKind.u64.wrap (z * 16)=z * 16:=by rw [Bw];omega
     have w3:IntKind.u64.wrap (z * 16+dz)=nz:=by rw [Bw];omega
     have w4:z * 16+dz=nz:=by omega
     have q4:dz<16:=by omega
     have q5:(0:Int)≤dz:=by omega
     have q6:¬nz<z * 16:=by omega
     have q7:nz≤18446744073709551615:=by omega
     have q8:¬ (18446744073709551615:Int)<nz:=by omega
     have NX2:=Hh (NX.o (by omega))
     have HNZ:=Hh hnz;clear NX hdv hdw h95 HBAD hDn hlo hhi LOW hdig hza ha16 hdz hnz HH
     go_wp2
     go_roundw
     case rel=>exact ⟨k+1,a * 16+D,nz,rfl,rfl,by go_num,trivial,by omega,Hh ⟨HNZ.o,NX2.o⟩⟩
     case measure=>simp [intOf];omega
    ·have hDn:=hdv hdig
     have hdg:¬ (48:Int)≤(n:Int)∨¬ (n:Int)≤57:=by omega
     by_cases hlet:97≤Z∧Z≤122
     ·have q3:((n:Int) == 95)=false:=by
       have:n ≠ 95:=fun e=>by have:=h95 e;omega
       simp;omega
      obtain ⟨l1,l2⟩:=hlet;obtain ⟨dz,hdz⟩:∃dz:Int,dz=(D:Int):=⟨_,rfl⟩;have w0:Z - 97+10=dz:=by omega
      have w1:IntKind.u8.wrap (Z - 97)=Z - 97:=by rw [Dd];omega
      have w2:IntKind.u8.wrap (Z - 97+10)=dz:=by rw [Dd];omega
      have w4:IntKind.u8.wrap dz=dz:=by rw [Dd];omega
      have q5:(0:Int)≤dz:=by omega
      have q6:dz≤35:=by omega
      by_cases hd16:D<16
      ·obtain ⟨nz,hnz⟩:∃nz:Int,nz=((a * 16+D:Nat):Int):=⟨_,rfl⟩
       have w5:IntKind.u64.wrap (z * 16)=z * 16:=by rw [Bw];omega
       have w6:IntKind.u64.wrap (z * 16+dz)=nz:=by rw [Bw];omega
       have w7:z * 16+dz=nz:=by omega
       have q4:dz<16:=by omega
       have q7:¬nz<z * 16:=by omega
       have q8:nz≤18446744073709551615:=by omega
       have q9:¬ (18446744073709551615:Int)<nz:=by omega
       have NX2:=Hh (NX.o (by omega))
       have HNZ:=Hh hnz;clear NX hdv hdw h95 HBAD hDn hza ha16 hdz hnz HH hd16 hdig;rcases hdg with q1 | q1
       ·go_wp2_with (go_at_call 179;(with_reducible refine (LOW.o _).mono ?_);rintro e w1 ⟨rfl,rfl⟩)
        go_roundw
        case rel=>exact ⟨k+1,a * 16+D,nz,rfl,rfl,by go_num,trivial,by omega,Hh ⟨HNZ.o,NX2.o⟩⟩
        case measure=>simp [intOf];omega
       ·have q0:(48:Int)≤(n:Int):=by omega
        go_wp2_with (go_at_call 179;(with_reducible refine (LOW.o _).mono ?_);rintro e w1 ⟨rfl,rfl⟩)
        go_roundw
        case rel=>exact ⟨k+1,a * 16+D,nz,rfl,rfl,by go_num,trivial,by omega,Hh ⟨HNZ.o,NX2.o⟩⟩
        case measure=>simp [intOf];omega
      ·have q4:¬dz<16:=by omega
       have HB2:=Hh (HBAD.o (fun h=>hd16 h.2))
       clear NX hdv hdw h95 HBAD hDn hza ha16 hdz HH hd16 hdig;rcases hdg with q1 | q1
       ·go_wp2_with (go_at_call 179;(with_reducible refine (LOW.o _).mono ?_);rintro e w1 ⟨rfl,rfl⟩)
        go_ret2
        exact ⟨0,_,rfl,by decide,.inr rfl,(fun u hu _=>absurd hu (HB2.o u)),hbl⟩
       ·have q0:(48:Int)≤(n:Int):=by omega
        go_wp2_with (go_at_call 179;(with_reducible refine (LOW.o _).mono ?_);rintro e w1 ⟨rfl,rfl⟩)
        go_ret2
        exact ⟨0,_,rfl,by decide,.inr rfl,(fun u hu _=>absurd hu (HB2.o u)),hbl⟩
     ·have HB2:=Hh (HBAD.o (fun h=>h.1.elim hdig (fun h=>hlet h.2)))
      clear NX hdv hdw h95 HBAD hDn hza ha16 HH hdig;have hlt:¬97≤Z∨¬Z≤122:=by omega
      rcases hlt with l1 | l1
      ·rcases hdg with q1 | q1
       ·by_cases h95:n=95
        ·omega
        ·have q3:((n:Int) == 95)=false:=by simp;omega
         go_wp2_with (go_at_call 179;(with_reducible refine (LOW.o _).mono ?_);rintro e w1 ⟨rfl,rfl⟩)
         go_ret2
         exact ⟨0,_,rfl,by decide,.inr rfl,(fun u hu _=>absurd hu (HB2.o u)),hbl⟩
       ·have q0:(48:Int)≤(n:Int):=by omega
        by_cases h95:n=95
        ·subst h95
         have L2:Hid (∀wx:World,Calls prog 179 #[.int .u8 95] wx fun e w'=>e=.returned (.int .u8 Z)∧wx=w'):=LOW
         go_wp2_with (go_at_call 179;(with_reducible refine (L2.o _).mono ?_);rintro e w1 ⟨rfl,rfl⟩)
         go_ret2
         exact ⟨0,_,rfl,by decide,.inr rfl,(fun u hu _=>absurd hu (HB2.o u)),hbl⟩
        ·have q3:((n:Int) == 95)=false:=by simp;omega
         go_wp2_with (go_at_call 179;(with_reducible refine (LOW.o _).mono ?_);rintro e w1 ⟨rfl,rfl⟩)
         go_ret2
         exact ⟨0,_,rfl,by decide,.inr rfl,(fun u hu _=>absurd hu (HB2.o u)),hbl⟩
      ·rcases hdg with q1 | q1
       ·have q3:((n:Int) == 95)=false:=by simp;omega
        have l2:97≤Z:=by omega
        go_wp2_with (go_at_call 179;(with_reducible refine (LOW.o _).mono ?_);rintro e w1 ⟨rfl,rfl⟩)
        go_ret2
        exact ⟨0,_,rfl,by decide,.inr rfl,(fun u hu _=>absurd hu (HB2.o u)),hbl⟩
       ·have q0:(48:Int)≤(n:Int):=by omega
        have l2:97≤Z:=by omega
        by_cases h95:n=95
        ·subst h95
         have L2:Hid (∀wx:World,Calls prog 179 #[.int .u8 95] wx fun e w'=>e=.returned (.int .u8 Z)∧wx=w'):=LOW
         go_wp2_with (go_at_call 179;(with_reducible refine (L2.o _).mono ?_);rintro e w1 ⟨rfl,rfl⟩)
         go_ret2
         exact ⟨0,_,rfl,by decide,.inr rfl,(fun u hu _=>absurd hu (HB2.o u)),hbl⟩
        ·have q3:((n:Int) == 95)=false:=by simp;omega
         go_wp2_with (go_at_call 179;(with_reducible refine (LOW.o _).mono ?_);rintro e w1 ⟨rfl,rfl⟩)
         go_ret2
         exact ⟨0,_,rfl,by decide,.inr rfl,(fun u hu _=>absurd hu (HB2.o u)),hbl⟩
   ·have hkk:k=s.size:=by omega
    subst hkk;have HF:Hid (a<16777216∧∀u,vhN s.data.toList=some u→a=u):=by
     refine Hh ⟨?_,fun u hu=>?_⟩
     ·have h1:=hh.o.1
      have h2:16 ^ s.size≤16 ^ 6:=Cf (by decide) hs
      have h3:16 ^ 6=16777216:=by decide
      omega
     ·rw [←HL.o] at hu
      rw [hh.o.2,(EJ hu).2,Ao (by omega)]
    subst hza;clear hh
    go_wp2
    go_ret2
    exact ⟨a,_,rfl,HF.o.1,.inl rfl,fun u hu _=>⟨HF.o.2 u hu,rfl⟩,hbl⟩
def aIw (s:Bt) (w:World) (e:Ending) (w':World):Prop:=∃ (v:Int) (ev:Value),e=.returned (.tuple #[Iz v,ev])∧(-16777216<v∧v<16777216)∧(ev=.nilIface∨ev=.iface 194 (Iz 2))∧(∀u,vhN s.data.toList=some u→0<s.size→v=u∧ev=.nilIface)∧Below w.heap.size w w'
theorem UK {s:Bt} (h:0<s.size) {u:Nat} (hu:vhN s.data.toList=some u):s[0].toNat ≠ 43∧s[0].toNat ≠ 45:=by
 have hm:s[0] ∈ s.data.toList:=by
  have:=Lib.data_getElem? s 0 h;exact Aq this
 obtain ⟨x,hx⟩:=(EJ hu).1 _ hm
 constructor
 ·intro e
  have:s[0]=43:=UInt8.toNat_inj.1 e;rw [this] at hx;cases hx
 ·intro e
  have:s[0]=45:=UInt8.toNat_inj.1 e;rw [this] at hx;cases hx
theorem ZI (w:World):(binOp .neq 94 (.iface 194 (Iz 2)) (.iface 194 (Iz 1))).run prog w=.ok (.bool true) w:=by kernel_rfl
theorem ZF (s:Bt) (w:World) (hs:s.size≤6):Calls prog 135 #[.string s,Iz 16,Iz 64] w (aIw s w):=by
 by_cases hne:s.size=0
 ·have hnil:s.data.toList=[]:=Au.1 (by rw [←Lib.size_eq];exact hne)
  have hemp:s.toList.isEmpty=true:=by rw [Ci,hnil];rfl
  go_enter func135,ntmps135
  go_wp2
  go_ret2
  exact ⟨0,_,rfl,by decide,.inr rfl,(fun u hu h0=>by omega),Br _ _⟩
 ·have hemp:s.toList.isEmpty=false:=by
   rw [Ci];cases h:s.data.toList with
   | nil=>have:=Lib.size_eq s;rw [h,Bs] at this;omega
   | cons _ _=>rfl
  have h0:0<s.size:=by omega
  have PU:Hid (∀ (t:Bt) (wx:World),t.size≤6→Calls prog 151 #[.string t,Iz 16,Iz 64] wx (aDy t wx)):=Hh (fun t wx h=>ZE t wx h)
  have HF:=Hh (fun u (hu:vhN s.data.toList=some u)=>UK h0 hu)
  have hx:(s.extract 1 s.size).size≤6:=by rw [Dg];omega
  have hc255:s[0].toNat<256:=s[0].toNat_lt;obtain ⟨n,hn⟩:∃n,n=s[0].toNat:=⟨_,rfl⟩;rw [←hn] at hc255
  go_enter func135,ntmps135
  go_upto_region 5 with fail
  have HX:Hid (∀u,vhN s.data.toList=some u→n ≠ 43∧n ≠ 45):=Hh (fun u hu=>by rw [hn];exact HF.o u hu)
  rw [←hn];have hh1:(1:Int)≤(s.size:Int):=by omega
  have hen:=fun wx=>ZI wx
  clear hn HF hne hemp
  by_cases h43:n=43
  ·subst h43
   go_upto_region 12 with ((with_reducible refine (PU.o _ _ hx).mono ?_);rintro e w1 ⟨v,ev,rfl,hv,hev,hh,hb⟩)
   have hv0:¬ (9223372036854775808:Int)≤(v:Int):=by omega
   have HV:=Hh hv;clear PU hh hv;rcases hev with rfl | rfl
   ·go_wp2
    go_ret2
    exact ⟨v,_,rfl,by have:=HV.o;omega,.inl rfl,(fun u hu=>absurd rfl (HX.o u hu).1),hb⟩
   ·go_wp2
    go_ret2
    exact ⟨0,_,rfl,by decide,.inr rfl,(fun u hu=>absurd rfl (HX.o u hu).1),hb⟩
  ·by_cases h45:n=45
   ·subst h45
    go_upto_region 12 with ((with_reducible refine (PU.o _ _ hx).mono ?_);rintro e w1 ⟨v,ev,rfl,hv,hev,hh,hb⟩)
    have hv0:¬ (9223372036854775808:Int)<(v:Int):=by omega
    have HV:=Hh hv;clear PU hh hv;rcases hev with rfl | rfl
    ·go_wp2
     go_ret2
     exact ⟨wrap64 (-wrap64 (v:Int)),_,rfl,by have:=HV.o;unfold wrap64;omega,.inl rfl,(fun u hu=>absurd rfl (HX.o u hu).2),hb⟩
    ·go_wp2
     go_ret2
     exact ⟨0,_,rfl,by decide,.inr rfl,(fun u hu=>absurd rfl (HX.o u hu).2),hb⟩
   ·have q1:((n:Int) == 43)=false:=by simp;omega
    have q2:((n:Int) == 45)=false:=by simp;omega
    clear h43 h45
    go_upto_region 12 with ((with_reducible refine (PU.o _ _ hs).mono ?_);rintro e w1 ⟨v,ev,rfl,hv,hev,hh,hb⟩)
    have hv0:¬ (9223372036854775808:Int)≤(v:Int):=by omega
    have HV:=Hh hv;have HH:=Hh hh;clear PU hh hv;rcases hev with rfl | rfl
    ·go_wp2
     go_ret2
     exact ⟨v,_,rfl,by have:=HV.o;omega,.inl rfl,(fun u hu h0=>⟨by have:=(HH.o u hu h0).1;omega,rfl⟩),hb⟩
    ·go_wp2
     go_ret2
     exact ⟨0,_,rfl,by decide,.inr rfl,(fun u hu h0=>by have:=(HH.o u hu h0).2;cases this),hb⟩
def aIv (s:Bt) (w:World) (e:Ending) (w':World):Prop:=∃ (v:Int) (ev:Value),e=.returned (.tuple #[Iz v,ev])∧(-16777216<v∧v<16777216)∧(ev=.nilIface∨∃t p,ev=.iface t p)∧(∀u,vhN s.data.toList=some u→0<s.size→v=u∧ev=.nilIface)∧Below w.heap.size w w'
theorem aEv (s:Bt) (w:World) (hs:s.size≤6) (hE:AP w):Calls prog 116 #[.string s,Iz 16,Iz 64] w (aIv s w):=by
 have I:=Hh (ZF s w hs);have HE:=Hh hE;clear hE
 go_enter func116,ntmps116
 go_upto_region 2 with ((with_reducible refine (I.o).mono ?_);rintro e w1 ⟨v,ev,rfl,hv,hev,hh,hb⟩)
 have HV:=Hh (Ai hv hh);clear hv hh I;rcases hev with rfl | rfl
 ·go_wp2
  go_ret2
  exact ⟨v,_,rfl,HV.o.1,.inl rfl,(fun u hu h0=>⟨(HV.o.2 u hu h0).1,rfl⟩),hb⟩
 ·obtain ⟨t,p,h1⟩:=HE.o.below hb
  have T:Hid (Calls prog 136 #[.string ⟨#[80,97,114,115,101,73,110,116]⟩,.string s,Iz 16,Iz 64,.iface 194 (Iz 2)] w1 fun e w'=>(∃t p,e=.returned (.iface t p))∧Below w1.heap.size w1 w'):=(Any.strconv_toError_syntax ZD ⟨#[80,97,114,115,101,73,110,116]⟩ s 16 64 _ w1 (by omega) h1 (.inr ⟨t,p,rfl⟩)).mono fun e w' ⟨N,h,_,_,hb⟩=>⟨⟨_,_,h⟩,hb⟩
  clear h1
  go_wp2_with (go_at_call 136;(with_reducible refine (T.o).mono ?_);rintro e w2 ⟨⟨t2,p2,rfl⟩,hb2⟩)
  go_ret2
  exact ⟨v,_,rfl,HV.o.1,.inr ⟨_,_,rfl⟩,(fun u hu h0=>by have:=(HV.o.2 u hu h0).2;cases this),hb.trans (hb2.mono hb.size)⟩
def GX (s:Bt) (w:World) (e:Ending) (w':World):Prop:=∃v:Int,e=.returned (Iz v)∧(-16777216<v∧v<16777216)∧(∀u,vhN s.data.toList=some u→0<s.size→v=u)∧Below w.heap.size w w'
theorem zP (s:Bt) (w:World) (hs:s.size≤6) (hE:AP w):Calls prog 85 #[.string s] w (GX s w):=by
 have I:=Hh (aEv s w hs hE);clear hE
 go_enter func85,ntmps85
 go_upto_region 2 with ((with_reducible refine (I.o).mono ?_);rintro e w1 ⟨v,ev,rfl,hv,hev,hh,hb⟩)
 have HV:=Hh (Ai hv hh);clear hv hh I;rcases hev with rfl | ⟨t,p,rfl⟩
 ·go_wp2
  go_ret
  exact ⟨v,rfl,HV.o.1,fun u hu h0=>(HV.o.2 u hu h0).1,hb⟩
 ·go_wp2
  go_ret
  exact ⟨0,rfl,by decide,fun u hu h0=>(by have:=(HV.o.2 u hu h0).2;cases this),hb⟩
end Go.Proofs.YtncdpanfefnjlaaGreatDoor
namespace Go.Proofs.YtncdpanfefnjlaaGreatDoor
open Go.Proofs.Tryz
open Go Go.Maps Go.ChangeShapes Go.WideShapes Go.ChangeAt Go.RowKit
def bV (l:Ub):Bt:=⟨l.toArray⟩
theorem aGv (l:Ub):(bV l).size=l.length:=by show l.toArray.size=_;simp
theorem aJx (s:Bt):bV s.data.toList=s:=by cases s;simp [bV]
theorem AJ (a b:Ub):bV a++bV b=bV (a++b):=by apply Cp;simp [bV]
theorem ZA {v:VD} (h:aU v=true):∃s1 s2 s3 s4 t1 t2 t3 t4:Bt,s1=bV (vhL 1 v.a.toNat)∧s2=bV (vhL 1 v.b.toNat)∧s3=bV (jD v.f)∧s4=bV (vhL 6 v.z.toNat)∧v.p++s1=t1∧t1++s2=t2∧t2++s3=t3∧t3++s4=t4∧t4++⟨#[95]⟩=vtS v∧v.p.size=4∧s1.size=1∧s2.size=1∧s3.size=4∧s4.size=6∧t1.size=5∧t2.size=6∧t3.size=10∧t4.size=16:=by
 obtain ⟨h1,h2,h3,h4,h5⟩:=dA h;have hp:v.p.size=4:=by rw [←h1,Ah];rfl
 have hf:=(jP h2).1;refine ⟨_,_,_,_,_,_,_,_,rfl,rfl,rfl,rfl,rfl,rfl,rfl,rfl,?_,hp,?_,?_,?_,?_,?_,?_,?_,?_⟩
 ·unfold vtS
  rw [Am h]
  show _=bV (fH v)
  unfold fH;rw [←AJ,←AJ,←AJ,←AJ,←AJ,aJx];simp only [ByteArray.append_assoc]
  rfl
 all_goals simp only [ByteArray.size_append,aGv,dG,hf,hp]
theorem QA (z:Int) (k:Nat) (y:Int) (hy:(k:Int)=y) (h0:0≤z) (h1:z≤16777215) (hk:z.toNat<16 ^ k) (hk1:1≤k) (hk6:k≤6) (w:World) (hT:DB w):Calls prog 87 #[Iz z,Iz y] w fun e w'=>e=.returned (.string (bV (vhL k z.toNat)))∧Below w.heap.size w w':=by
 have:=aBz z.toNat k y hy (by omega) hk hk1 hk6 w hT
 rw [Int.toNat_of_nonneg h0] at this;exact this
def MT (g:Nat) (v:VD) (w:World):Prop:=w.cell? ⟨g,0,none⟩=some (.string v.p)∧w.cell? ⟨g,1,none⟩=some (Iz v.a)∧w.cell? ⟨g,2,none⟩=some (Iz v.b)∧w.cell? ⟨g,3,none⟩=some (Iz v.f)∧w.cell? ⟨g,4,none⟩=some (Iz v.z)
theorem MT.below {g:Nat} {v:VD} {w w':World} (h:MT g v w) (hb:Below w.heap.size w w'):MT g v w':=lB hb (cD h.1) h
def xE (v:VD) (w:World) (e:Ending) (w':World):Prop:=e=.returned (.tuple #[.string (vtS v),Iz (vtE v)])∧Below w.heap.size w w'
theorem nW (v:VD) (w:World) (hv:AO v) (hT:DB w):Calls prog 53 #[.agg (vcs v)] w (xE v w):=by
 have VA:=Hh (fun wx:World=>qJ v wx hv)
 have HT:=Hh hT;unfold vcs at *;have b0:=(Br w.heap.size w).alloc (o:=.cells #[.string v.p,Iz v.a,Iz v.b,Iz v.f,Iz v.z] 58) (Lr _);have k0:=Hn w (.cells #[.string v.p,Iz v.a,Iz v.b,Iz v.f,Iz v.z] 58);cases hval:aU v with
 | false=>
  rw [hval] at VA;have HE:Hid (vtS v=⟨#[]⟩∧vtE v=2):=Hh (by unfold vtS vtE;rw [hval];exact ⟨rfl,rfl⟩)
  clear hval hT hv
  go_enter func53,ntmps53
  go_upto_region 1 with fail
  generalize w.alloc _=w1 at b0 k0 ⊢;have hc:=dM k0;have HB:=Hh b0;clear b0 k0
  go_wp2_with (go_at_call 43;(with_reducible refine (VA.o _).mono ?_);rintro e w2 ⟨rfl,hb2⟩)
  go_ret2
  exact ⟨by rw [HE.o.1,HE.o.2];rfl,HB.o.trans (hb2.mono HB.o.size)⟩
 | true=>
  rw [hval] at VA;obtain ⟨s1,s2,s3,s4,t1,t2,t3,t4,e1,e2,e3,e4,c1,c2,c3,c4,c5,z0,z1,z2,z3,z4,y1,y2,y3,y4⟩:=ZA hval;obtain ⟨-,hf,ha,hb,hz⟩:=dA hval;have HA:Hid (∀wx,DB wx→Calls prog 87 #[Iz v.a,Iz 1] wx fun e w'=>e=.returned (.string s1)∧Below wx.heap.size wx w'):=Hh fun wx h=>by rw [e1];exact QA v.a 1 1 rfl ha.1 (by omega) (by omega) (by decide) (by decide) wx h
  have HBB:Hid (∀wx,DB wx→Calls prog 87 #[Iz v.b,Iz 1] wx fun e w'=>e=.returned (.string s2)∧Below wx.heap.size wx w'):=Hh fun wx h=>by rw [e2];exact QA v.b 1 1 rfl hb.1 (by omega) (by omega) (by decide) (by decide) wx h
  have HZ:Hid (∀wx,DB wx→Calls prog 87 #[Iz v.z,Iz 6] wx fun e w'=>e=.returned (.string s4)∧Below wx.heap.size wx w'):=Hh fun wx h=>by rw [e4];exact QA v.z 6 6 rfl hz.1 (by omega) (by omega) (by decide) (by decide) wx h
  have FN:=Hh (fun wx:World=>qZ wx)
  have HF:=Hh hv.f;have E3:=Hh e3;have HE:Hid (t4++⟨#[95]⟩=vtS v∧vtE v=0):=Hh ⟨c5,by unfold vtE;rw [hval];rfl⟩
  have l1:¬9223372036854775807<v.p.size+s1.size:=by omega
  have l2:¬9223372036854775807<t1.size+s2.size:=by omega
  have l3:¬9223372036854775807<t2.size+s3.size:=by omega
  have l4:¬9223372036854775807<t3.size+s4.size:=by omega
  have l5:¬9223372036854775807<t4.size+1:=by omega
  clear hval hT hv e1 e2 e3 e4 c5 z0 z1 z2 z3 z4 y1 y2 y3 y4 ha hb hz hf
  go_enter func53,ntmps53
  go_upto_region 1 with fail
  generalize w.alloc _=w1 at b0 k0 ⊢;have hc:=dM k0;have HB:=Hh b0;have hF1:MT w.heap.size v w1:=hc;have HF1:=Hh hF1;clear b0 k0 hF1
  go_upto_region 3 with ((with_reducible refine (VA.o _).mono ?_);rintro e w2 ⟨rfl,hb2⟩)
  have hF2:=HF1.o.below hb2;have HB2:=Hh (HB.o.trans (hb2.mono HB.o.size));clear hb2 hc HB HF1 VA;refine aJ (MT w.heap.size v) [1,3,7,12,16] (.take 0 (.take 1 (.take 2 (.take 3 (.take 6 (.take 7 (.take 11 (.take 12 (.take 15 (.take 16 (.ask 4 true (.take 5 (.ask 8 true (.take 9 (.ask 10 true (eN.join true (.ask 13 true (.take 14 (.ask 17 true .stop .stop)) (.ask 17 true (.ask 13 true (.take 14 .stop) .stop) .stop)) (.ask 18 false (.take 19 (.take 20 (.take 21 .stop))) .stop)) .stop)) .stop)) .stop))))))))))) (by kernel_rfl) (by kernel_rfl) (fun _ d _ _ _ h=>by cases d <;> exact h) (hF2.below ((Br _ _).drew)) ?_
  have hF3:=hF2.below ((Br w2.heap.size w2).drew);have HB3:=Hh (HB2.o.trans (((Br w2.heap.size w2).drew).mono HB2.o.size));generalize w2.drew=wd at hF3 HB3 ⊢;have HF3:=Hh hF3;clear hF2 hF3 HB2;refine aG _ ?_ rfl rfl ?_ (fun K hK=>?_);rotate_left;(intro w0;go_simp;(try rfl));(go_simp;refine hK _ ?_;clear hK K)
  refine aN _ ?_ rfl rfl (by decide) ?_ (fun K hK=>?_);rotate_left;(intro w0 hw0;obtain ⟨q0,q1,q2,q3,q4⟩:=hw0;go_simp;(try rfl));(go_simp;refine hK _ ?_;clear hK K)
  refine aG _ ?_ rfl rfl ?_ (fun K hK=>?_);rotate_left;(intro w0;go_simp;(try rfl));(go_simp;refine hK _ ?_;clear hK K)
  refine aN _ ?_ rfl rfl (by decide) ?_ (fun K hK=>?_);rotate_left;(intro w0 hw0;obtain ⟨q0,q1,q2,q3,q4⟩:=hw0;go_simp;(try rfl));(go_simp;refine hK _ ?_;clear hK K)
  refine aG _ ?_ rfl rfl ?_ (fun K hK=>?_);rotate_left;(intro w0;go_simp;(try rfl));(go_simp;refine hK _ ?_;clear hK K)
  refine aN _ ?_ rfl rfl (by decide) ?_ (fun K hK=>?_);rotate_left;(intro w0 hw0;obtain ⟨q0,q1,q2,q3,q4⟩:=hw0;go_simp;(try rfl));(go_simp;refine hK _ ?_;clear hK K)
  refine aG _ ?_ rfl rfl ?_ (fun K hK=>?_);rotate_left;(intro w0;go_simp;(try rfl));(go_simp;refine hK _ ?_;clear hK K)
  refine aN _ ?_ rfl rfl (by decide) ?_ (fun K hK=>?_);rotate_left;(intro w0 hw0;obtain ⟨q0,q1,q2,q3,q4⟩:=hw0;go_simp;(try rfl));(go_simp;refine hK _ ?_;clear hK K)
  refine aG _ ?_ rfl rfl ?_ (fun K hK=>?_);rotate_left;(intro w0;go_simp;(try rfl));(go_simp;refine hK _ ?_;clear hK K)
  refine aN _ ?_ rfl rfl (by decide) ?_ (fun K hK=>?_);rotate_left;(intro w0 hw0;obtain ⟨q0,q1,q2,q3,q4⟩:=hw0;go_simp;(try rfl));(go_simp;refine hK _ ?_;clear hK K)
  refine aI _ rfl trivial ?_;go_wp2_with (go_at_call 87;(with_reducible refine (HA.o _ (HT.o.below HB3.o)).mono ?_);rintro e w4 ⟨rfl,hb4⟩);have HF4:=Hh (HF3.o.below hb4);have HB4:=Hh (HB3.o.trans (hb4.mono HB3.o.size));refine Seg.mk ⟨HF4.o,?_⟩;clear hb4 HB3 HF3 HA;refine aG _ ?_ rfl rfl ?_ (fun K hK=>?_);rotate_left;(intro w0;go_simp;(try rfl));(go_simp;refine hK _ ?_;clear hK K)
  refine aI _ rfl trivial ?_;go_wp2_with (go_at_call 87;(with_reducible refine (HBB.o _ (HT.o.below HB4.o)).mono ?_);rintro e w5 ⟨rfl,hb5⟩);have HF5:=Hh (HF4.o.below hb5);have HB5:=Hh (HB4.o.trans (hb5.mono HB4.o.size));refine Seg.mk ⟨HF5.o,?_⟩;clear hb5 HB4 HF4 HBB;refine aG _ ?_ rfl rfl ?_ (fun K hK=>?_);rotate_left;(intro w0;go_simp;(try rfl));(go_simp;refine hK _ ?_;clear hK K)
  refine aI _ rfl trivial ?_;go_wp2_with (go_at_call 74;(with_reducible refine (FN.o _).mono ?_);rintro e w6 ⟨rfl,hl6,hb6⟩);have HF6:=Hh (HF5.o.below hb6);have HB6:=Hh (HB5.o.trans (hb6.mono HB5.o.size));have hl6s:w5.heap.size<w6.heap.size:=hl6.lt;refine Seg.mk ⟨HF6.o,?_⟩;have HL6:=Hh hl6;clear hb6 HB5 HF5 FN hl6;generalize w5.heap.size=m at HL6 hl6s ⊢;have LK:Hid (∀wx,gY wx m→(Instr.lookup 112 (.map (some m)) (Iz v.f) false).run prog wx=.ok (.string s3) wx):=Hh fun wx h=>by rw [E3.o];exact h.look1 HF.o.1 HF.o.2
  clear E3 HF;refine fC [20,21,24] (fun vs wx=>vs=[.string s3,.string t3,.string s4]∧Below w.heap.size w wx) ?_ ?_
  rotate_left
  ·rintro vs w7 ⟨rfl,hb7⟩
   simp only [gX,Act.put,As,Ay,Az];have HB7:=Hh hb7;clear hb7 HB6 HF6 HL6 LK HZ;refine aF _ rfl trivial ?_;go_wp2_with fail;refine Seg.mk ?_
   iterate 3 (refine aG _ ?_ rfl rfl ?_ (fun K hK=>?_);rotate_left;(intro w0;go_simp;(try rfl));(go_simp;refine hK _ ?_;clear hK K))
   unfold cN
   go_wp2
   go_ret2
   exact ⟨by rw [←HE.o.1,HE.o.2];rfl,HB7.o⟩
  ·refine aI _ rfl ?alt ?_
   rotate_left
   ·have hlk:=LK.o _ HL6.o
    clear LK
    go_wp2_with fail
    refine Seg.mk ⟨HF6.o,?_⟩;clear hlk;refine aG _ ?_ rfl rfl ?_ (fun K hK=>?_);rotate_left;(intro w0;go_simp;(try rfl));(go_simp;refine hK _ ?_;clear hK K)
    refine aI _ rfl trivial ?_;go_wp2_with (go_at_call 87;(with_reducible refine (HZ.o _ (HT.o.below HB6.o)).mono ?_);rintro e w7 ⟨rfl,hb7⟩);refine Seg.mk ⟨HF6.o.below hb7,?_⟩;exact aQ [.string s3,.string t3,.string s4] ⟨rfl,HB6.o.trans (hb7.mono HB6.o.size)⟩ rfl
   ·refine aI _ rfl trivial ?_;go_wp2_with (go_at_call 87;(with_reducible refine (HZ.o _ (HT.o.below HB6.o)).mono ?_);rintro e w7 ⟨rfl,hb7⟩)
    have HF7:=Hh (HF6.o.below hb7);refine Seg.mk ⟨HF7.o,?_⟩;have hlk:=LK.o _ (HL6.o.below hb7);have HB7:=Hh (HB6.o.trans (hb7.mono HB6.o.size));clear LK hb7;refine aI _ rfl trivial ?_;go_wp2_with fail;refine Seg.mk ⟨HF7.o,?_⟩;clear hlk;refine aG _ ?_ rfl rfl ?_ (fun K hK=>?_);rotate_left;(intro w0;go_simp;(try rfl));(go_simp;refine hK _ ?_;clear hK K)
    exact aQ [.string s3,.string t3,.string s4] ⟨rfl,HB7.o⟩ rfl
theorem kZ (s:Bt) (i j:Nat):(s.extract i j).data.toList=(s.data.toList.drop i).take (j - i):=by
 simp [ByteArray.data_extract]
theorem ZC {v:VD} (h:aU v=true):(vtS v).data.toList=fH v:=by unfold vtS;rw [Am h]
theorem aHy {s:Bt} {v:VD} (hs:s.size=17) (hp:v.p=s.extract 0 4) (ha:∀u,vhN (s.extract 4 5).data.toList=some u→v.a=u) (hb:∀u,vhN (s.extract 5 6).data.toList=some u→v.b=u) (hf:v.f=jC (s.extract 6 10).data.toList) (hz:∀u,vhN (s.extract 10 16).data.toList=some u→v.z=u) :
 (vtE v=0→vtS v=s→eO s.data.toList=some v)∧((vtE v ≠ 0∨vtS v ≠ s)→eO s.data.toList=none):=by
 have key:aU v=true→fH v=s.data.toList→eO s.data.toList=some v:=fun h1 h2=>CZ.2 ⟨h1,h2⟩
 constructor
 ·intro h1 h2
  cases hv:aU v with
  | false=>unfold vtE at h1;rw [hv] at h1;cases h1
  | true=>exact key hv (by rw [← (ZC hv),h2])
 ·intro h
  cases hq:eO s.data.toList with
  | none=>rfl
  | some u=>
   exfalso
   obtain ⟨g1,g2⟩:=tW hq;obtain ⟨h1,h2,h3,h4,h5⟩:=dA g1;obtain ⟨q0,q1,q2,q3,q4,q5,q6⟩:=EZ h1 (dG 1 u.a.toNat) (dG 1 u.b.toNat) (jP h2).1 (dG 6 u.z.toNat) (E:=[95]) rfl;have g3:u.p.data.toList++(vhL 1 u.a.toNat++(vhL 1 u.b.toNat++(jD u.f++(vhL 6 u.z.toNat++[95]))))=s.data.toList:=g2;rw [g3] at q1 q2 q3 q4 q5;have e1:=ha u.a.toNat (by rw [kZ,q2];exact xT 1 _ (by omega))
   have e2:=hb u.b.toNat (by rw [kZ,q3];exact xT 1 _ (by omega))
   have e3:=hz u.z.toNat (by rw [kZ,q5];exact xT 6 _ (by omega))
   have e4:v.f=u.f:=by rw [hf,kZ,q4];exact (jP h2).2
   have e5:v.p=u.p:=by rw [hp];apply Cp;apply Ce.1;rw [kZ];exact q1
   have ev:v=u:=by
    obtain ⟨p,a,b,f,z⟩:=v;obtain ⟨p',a',b',f',z'⟩:=u;simp only at e1 e2 e3 e4 e5 h3 h4 h5 ⊢;rw [e1,e2,e3,e4,e5,Int.toNat_of_nonneg h3.1,Int.toNat_of_nonneg h4.1,Int.toNat_of_nonneg h5.1]
   subst ev;rcases h with h | h
   ·exact h (by unfold vtE;rw [g1];rfl)
   ·exact h (by apply Cp;apply Ce.1;rw [ZC g1];exact g2)
theorem RV {a:Int} (h:-16777216<a) (k:a<16777216):wI a:=by unfold wI;omega
theorem aCe (l:Ub):0≤jC l∧jC l≤3:=by unfold jC;(repeat' split) <;> decide
theorem aHx {s:Bt} (h:s.size ≠ 17):eO s.data.toList=none:=by
 unfold eO;rw [Af];rw [Ah];exact h
def GR (s:Bt) (w:World) (e:Ending) (w':World):Prop:=e=.returned (.tuple #[.agg (vcs (pvV s.data.toList)),Iz (pvE s.data.toList)])∧Below w.heap.size w w'
theorem rZ {f:Func} {Q:Ending→World→Prop} {a:Act} {w:World} {g c s:Nat} {x0 x1 x2 x3 x4 v y0 y1 y2 y3 y4:Value} (h:w.heap[g]?=some (.cells #[y0,y1,y2,y3,y4] 58 (0,0))) (hres:f.results=#[.cell c 58,.tmp s]) (hc:a.tmps.getD c undef=.pointer (some ⟨g,0,none⟩)) (hs:a.tmps.getD s undef=v) (hd:a.defers=[])
 (hQ:Q (.returned (.tuple #[.agg #[x0,x1,x2,x3,x4],v])) (OE w g x0 x1 x2 x3 x4)):bodyPost prog f Q .ret a (OE w g x0 x1 x2 x3 x4):=by
 refine Ar (v:=.tuple #[.agg #[x0,x1,x2,x3,x4],v]) ?_ hd hQ;obtain ⟨q0,q1,q2,q3,q4⟩:=dM (zV h x0 x1 x2 x3 x4);obtain ⟨tm,df⟩:=a;simp only [Array.getD_eq_getD_getElem?] at hc hs;simp [results,hres,go_sem,hc,hs,q0,q1,q2,q3,q4]
def PW (w wx:World):Prop:=wx.heap[w.heap.size]?=some (.cells #[.string ⟨#[]⟩,Iz 0,Iz 0,Iz 0,Iz 0] 58 (0,0))∧Below w.heap.size w wx
theorem PW.step {w wx wn:World} (h:PW w wx) (hb:Below wx.heap.size wx wn):PW w wn:=⟨(hb.block _ (Aa h.1)).trans h.1,h.2.trans (hb.mono h.2.size)⟩
theorem PW.b {w wx:World} (h:PW w wx):Below w.heap.size w wx:=h.2
def PA (w wx:World) (g:Nat):Prop:=wx.heap[g]?=some (.cells #[.string ⟨#[]⟩,Iz 0,Iz 0,Iz 0,Iz 0] 58 (0,0))∧w.heap.size<g
theorem PA.step {w wx wn:World} {g:Nat} (h:PA w wx g) (hb:Below wx.heap.size wx wn):PA w wn g:=⟨(hb.block _ (Aa h.1)).trans h.1,h.2⟩
theorem PW.made {w wx:World} (h:PW w wx):PA w (wx.alloc (.cells #[.string ⟨#[]⟩,Iz 0,Iz 0,Iz 0,Iz 0] 58)) wx.heap.size:=⟨Hn wx _,Aa h.1⟩
def aEb (x:Bt) (a:Int):Prop:=(-16777216<a∧a<16777216)∧∀u,vhN x.data.toList=some u→0<x.size→a=u
theorem NR (s:Bt) (w:World) (hT:DB w) (hE:AP w):Calls prog 51 #[.string s] w (GR s w):=by
 have b0:=(Br w.heap.size w).alloc (o:=.cells #[.string ⟨#[]⟩,Iz 0,Iz 0,Iz 0,Iz 0] 58) (Lr _);have k0:=Hn w (.cells #[.string ⟨#[]⟩,Iz 0,Iz 0,Iz 0,Iz 0] 58)
 by_cases hs:s.size=17
 ·have q1:((s.size:Int) != 17)=false:=by rw [hs];rfl
  have q2:((s.size:Int) == 17)=true:=by rw [hs];rfl
  have n1:(s.extract 4 5).size≤6:=by rw [Dg];omega
  have n2:(s.extract 5 6).size≤6:=by rw [Dg];omega
  have n3:(s.extract 10 16).size≤6:=by rw [Dg];omega
  have m1:0<(s.extract 4 5).size:=by rw [Dg];omega
  have m2:0<(s.extract 5 6).size:=by rw [Dg];omega
  have m3:0<(s.extract 10 16).size:=by rw [Dg];omega
  have HL:=Hh (Ai hs (Ai m1 (Ai m2 m3)));have N1:Hid (∀wx,AP wx→Calls prog 85 #[.string (s.extract 4 5)] wx (GX (s.extract 4 5) wx)):=Hh fun wx h=>zP _ wx n1 h
  have N2:Hid (∀wx,AP wx→Calls prog 85 #[.string (s.extract 5 6)] wx (GX (s.extract 5 6) wx)):=Hh fun wx h=>zP _ wx n2 h
  have N3:Hid (∀wx,AP wx→Calls prog 85 #[.string (s.extract 10 16)] wx (GX (s.extract 10 16) wx)):=Hh fun wx h=>zP _ wx n3 h
  have FO:=Hh (fun wx:World=>aGg (s.extract 6 10) wx)
  have HT:=Hh hT;have HE:=Hh hE;have z1:(4:Int)≤(s.size:Int):=by omega
  have z2:(5:Int)≤(s.size:Int):=by omega
  have z3:(6:Int)≤(s.size:Int):=by omega
  have z4:(10:Int)≤(s.size:Int):=by omega
  have z5:(16:Int)≤(s.size:Int):=by omega
  clear hs hT hE n1 n2 n3 m1 m2 m3
  go_enter func51,ntmps51
  go_upto_region 3 with fail
  generalize w.alloc _=w1 at b0 k0 ⊢;have K0:=Hh k0;have B0:=Hh b0;clear k0 b0;refine aJ (fun _=>True) [] (.take 0 (.take 1 (.take 2 (.take 3 (.take 5 (.take 6 (.take 8 (.take 9 (.take 11 (.take 12 (eN.join true (.ask 4 false (.ask 7 false (.ask 10 false (.ask 13 false (.take 14 (.ask 15 false .stop .stop)) (.ask 15 false (.ask 13 false (.take 14 .stop) .stop) .stop)) (.ask 15 false (.ask 10 false (.ask 13 false (.take 14 .stop) .stop) .stop) .stop)) (.ask 15 false (.ask 7 false (.ask 10 false (.ask 13 false (.take 14 .stop) .stop) .stop) .stop) .stop)) (.ask 15 false (.ask 4 false (.ask 7 false (.ask 10 false (.ask 13 false (.take 14 .stop) .stop) .stop) .stop) .stop) .stop)) (.ask 16 false .stop .stop)))))))))))) (by kernel_rfl) (by kernel_rfl) (fun _ d _ _ _ h=>by cases d <;> exact h) trivial ?_
  have hb2:=(Br w1.heap.size w1).drew;have B2:=Hh (B0.o.trans (hb2.mono B0.o.size));have K2:=Hh ((hb2.block _ (Aa K0.o)).trans K0.o);clear hb2 B0 K0;generalize w1.drew=wn0 at B2 K2 ⊢
  iterate 10 (refine aG _ ?_ rfl rfl ?_ (fun K hK=>?_);rotate_left;(intro w0;go_simp;(try rfl));(go_simp;refine hK _ ?_;clear hK K))
  have HW0:Hid (PW w wn0):=Hh ⟨K2.o,B2.o⟩;clear K2 B2;obtain ⟨fv,hfv⟩:∃fv,fv=jC (s.extract 6 10).data.toList:=⟨_,rfl⟩;rw [←hfv] at FO;have HFV:=Hh hfv;clear hfv;refine fC [4,15,18,21,24,25] (fun vs wx=>∃ (g4:Nat) (a b z:Int),vs=[.pointer (some ⟨g4,0,none⟩),Iz a,Iz b,Iz fv,Iz z,.agg #[.string (s.extract 0 4),Iz a,Iz b,Iz fv,Iz z]]∧aEb (s.extract 4 5) a∧aEb (s.extract 5 6) b∧aEb (s.extract 10 16) z∧PA w wx g4∧PW w wx) ?_ ?_
  rotate_left
  ·rintro vs wx ⟨g4,a,b,z,rfl,ha,hb,hz,hA,hW⟩
   simp only [gX,Act.put,As,Ay,Az];have f4:=lA hA.1;have c4:=dM hA.1;have k5:=zV hA.1 (.string (s.extract 0 4)) (Iz a) (Iz b) (Iz fv) (Iz z);have g5:=iJ wx g4 (.string (s.extract 0 4)) (Iz a) (Iz b) (Iz fv) (Iz z);have hlt:=hA.2;have r5:=(g5.block _ (Aa hW.1) (by intro e;have:=Ab e;omega)).trans hW.1
   have B5:=hW.2.grown g5 hW.2.size (fun k hk=>by cases hk;omega)
   have HLAX:=Hh (aHy (v:=⟨s.extract 0 4,a,b,fv,z⟩) HL.o.1 rfl (fun u hu=>ha.2 u hu HL.o.2.1) (fun u hu=>hb.2 u hu HL.o.2.2.1) HFV.o (fun u hu=>hz.2 u hu HL.o.2.2.2))
   have HWD:Hid (AO ⟨s.extract 0 4,a,b,fv,z⟩):=Hh ⟨RV ha.1.1 ha.1.2,RV hb.1.1 hb.1.2,by have:=aCe (s.extract 6 10).data.toList;rw [←HFV.o] at this;exact (RV (by omega) (by omega):wI fv),RV hz.1.1 hz.1.2⟩
   have HEV:Hid (vtE ⟨s.extract 0 4,a,b,fv,z⟩=0∨vtE ⟨s.extract 0 4,a,b,fv,z⟩=2):=Hh (by unfold vtE;split;exact .inl rfl;exact .inr rfl)
   have K5:=Hh (Ai k5 (Ai r5 B5));clear ha hb hz hA hW k5 g5 r5 B5 HL HFV HW0 FO N1 N2 N3 HE;unfold OE at K5;refine cG _ rfl trivial ?_
   go_upto_region 4 with fail
   generalize ((((wx.setCell ⟨g4,0,none⟩ _).setCell ⟨g4,1,none⟩ _).setCell ⟨g4,2,none⟩ _).setCell ⟨g4,3,none⟩ _).setCell ⟨g4,4,none⟩ _=w5 at K5 ⊢;have TX:Hid (Calls prog 53 #[.agg #[.string (s.extract 0 4),Iz a,Iz b,Iz fv,Iz z]] w5 (xE ⟨s.extract 0 4,a,b,fv,z⟩ w5)):=Hh (nW ⟨s.extract 0 4,a,b,fv,z⟩ w5 HWD.o (HT.o.below K5.o.2.2));unfold xE at TX;have c5:=dM K5.o.1;obtain ⟨E,hE⟩:∃E,E=vtE ⟨s.extract 0 4,a,b,fv,z⟩:=⟨_,rfl⟩;obtain ⟨S,hS⟩:∃S,S=vtS ⟨s.extract 0 4,a,b,fv,z⟩:=⟨_,rfl⟩;rw [←hE] at HLAX HEV TX;rw [←hS] at HLAX TX;clear hE hS c4 f4 HWD HT
   go_upto_region 5 with ((with_reducible refine (TX.o).mono ?_);rintro e w6 ⟨rfl,hb6⟩)
   have k6:=(hb6.block _ (Aa K5.o.1)).trans K5.o.1;have r6:=(hb6.block _ (Aa K5.o.2.1)).trans K5.o.2.1;have B6:=Hh (K5.o.2.2.trans (hb6.mono K5.o.2.2.size));have c6:=dM k6;have d6:=dM r6;have f6:=lA r6;have R6:=Hh r6;clear c5 TX K5 hb6 k6 r6;have hev:=HEV.o;rcases hev with rfl | rfl
   ·by_cases hq:S=s
    ·have e1:(S.toList == s.toList)=true:=by rw [hq];exact beq_self_eq_true _
     have e2:(S.toList != s.toList)=false:=by rw [bne,e1];rfl
     have HP:=Hh (HLAX.o.1 rfl hq);clear hq HLAX HEV
     go_wp2
     refine rZ (x0:=.string (s.extract 0 4)) (x1:=Iz a) (x2:=Iz b) (x3:=Iz fv) (x4:=Iz z) (v:=Iz 0) R6.o rfl rfl rfl rfl ?_;exact ⟨by unfold pvV pvE;rw [HP.o];rfl,B6.o.grown (iJ _ _ _ _ _ _ _) B6.o.size (fun k hk=>by cases hk;exact Lr _)⟩
    ·have e1:(S.toList == s.toList)=false:=by
      rw [Db,Ci,Ci];intro e;exact hq (Cp (Ce.1 e))
     have e2:(S.toList != s.toList)=true:=by rw [bne,e1];rfl
     have HP:=Hh (HLAX.o.2 (.inr hq));clear hq HLAX HEV
     go_wp2
     refine rZ (x0:=.string ⟨#[]⟩) (x1:=Iz 0) (x2:=Iz 0) (x3:=Iz 0) (x4:=Iz 0) (v:=Iz 10) R6.o rfl rfl rfl rfl ?_;exact ⟨by unfold pvV pvE;rw [HP.o];rfl,B6.o.grown (iJ _ _ _ _ _ _ _) B6.o.size (fun k hk=>by cases hk;exact Lr _)⟩
   ·have HP:=Hh (HLAX.o.2 (.inl (by decide)))
    clear HLAX HEV
    go_wp2
    refine rZ (x0:=.string ⟨#[]⟩) (x1:=Iz 0) (x2:=Iz 0) (x3:=Iz 0) (x4:=Iz 0) (v:=Iz 10) R6.o rfl rfl rfl rfl ?_;exact ⟨by unfold pvV pvE;rw [HP.o];rfl,B6.o.grown (iJ _ _ _ _ _ _ _) B6.o.size (fun k hk=>by cases hk;exact Lr _)⟩
  ·skip
   refine aF _ rfl ?_ ?_
   ·refine aF _ rfl trivial ?_
    go_wp2_with fail
    refine Seg.mk ?_;have HA1:=Hh (HW0.o.made);have HW1:=Hh (HW0.o.step ((Br _ _).alloc (o:=.cells #[.string ⟨#[]⟩,Iz 0,Iz 0,Iz 0,Iz 0] 58) (Lr _)));generalize wn0.alloc _=wn1 at HW1 HA1 ⊢;generalize wn0.heap.size=g4 at HA1 ⊢;refine aF _ rfl trivial ?_
    go_wp2_with (go_at_call 85;(with_reducible refine (N1.o _ (HE.o.below HW1.o.b)).mono ?_);rintro e wn2 ⟨va,rfl,hva,hua,hb2⟩)
    refine Seg.mk ?_;have HW2:=Hh (HW1.o.step hb2);have HA2:=Hh (HA1.o.step hb2);have HVa:=Hh (Ai hva hua);clear hva hua;clear hb2;refine aF _ rfl trivial ?_
    go_wp2_with (go_at_call 85;(with_reducible refine (N2.o _ (HE.o.below HW2.o.b)).mono ?_);rintro e wn3 ⟨vb,rfl,hvb,hub,hb3⟩)
    refine Seg.mk ?_;have HW3:=Hh (HW2.o.step hb3);have HA3:=Hh (HA2.o.step hb3);have HVb:=Hh (Ai hvb hub);clear hvb hub;clear hb3;refine aF _ rfl trivial ?_
    go_wp2_with (go_at_call 86;(with_reducible refine (FO.o _).mono ?_);rintro e wn4 ⟨rfl,hb4⟩)
    refine Seg.mk ?_;have HW4:=Hh (HW3.o.step hb4);have HA4:=Hh (HA3.o.step hb4);clear hb4;refine aF _ rfl trivial ?_
    go_wp2_with (go_at_call 85;(with_reducible refine (N3.o _ (HE.o.below HW4.o.b)).mono ?_);rintro e wn5 ⟨vz,rfl,hvz,huz,hb5⟩)
    refine Seg.mk ?_;have HW5:=Hh (HW4.o.step hb5);have HA5:=Hh (HA4.o.step hb5);have HVz:=Hh (Ai hvz huz);clear hvz huz;clear hb5;refine aG _ ?_ rfl rfl ?_ (fun K hK=>?_);rotate_left;(intro w0;go_simp;(try rfl));(go_simp;refine hK _ ?_;clear hK K)
    exact aQ [.pointer (some ⟨g4,0,none⟩),Iz va,Iz vb,Iz fv,Iz vz,.agg #[.string (s.extract 0 4),Iz va,Iz vb,Iz fv,Iz vz]] ⟨g4,va,vb,vz,rfl,HVa.o,HVb.o,HVz.o,HA5.o,HW5.o⟩ rfl
   ·go_wp2_with (go_at_call 85;(with_reducible refine (N1.o _ (HE.o.below HW0.o.b)).mono ?_);rintro e wn1 ⟨va,rfl,hva,hua,hb1⟩)
    refine Seg.mk ?_;have HW1:=Hh (HW0.o.step hb1);have HVa:=Hh (Ai hva hua);clear hva hua;clear hb1;refine aF _ rfl ?_ ?_
    ·refine aF _ rfl trivial ?_
     go_wp2_with fail
     refine Seg.mk ?_;have HA2:=Hh (HW1.o.made);have HW2:=Hh (HW1.o.step ((Br _ _).alloc (o:=.cells #[.string ⟨#[]⟩,Iz 0,Iz 0,Iz 0,Iz 0] 58) (Lr _)));generalize wn1.alloc _=wn2 at HW2 HA2 ⊢;generalize wn1.heap.size=g4 at HA2 ⊢;refine aF _ rfl trivial ?_
     go_wp2_with (go_at_call 85;(with_reducible refine (N2.o _ (HE.o.below HW2.o.b)).mono ?_);rintro e wn3 ⟨vb,rfl,hvb,hub,hb3⟩)
     refine Seg.mk ?_;have HW3:=Hh (HW2.o.step hb3);have HA3:=Hh (HA2.o.step hb3);have HVb:=Hh (Ai hvb hub);clear hvb hub;clear hb3;refine aF _ rfl trivial ?_
     go_wp2_with (go_at_call 86;(with_reducible refine (FO.o _).mono ?_);rintro e wn4 ⟨rfl,hb4⟩)
     refine Seg.mk ?_;have HW4:=Hh (HW3.o.step hb4);have HA4:=Hh (HA3.o.step hb4);clear hb4;refine aF _ rfl trivial ?_
     go_wp2_with (go_at_call 85;(with_reducible refine (N3.o _ (HE.o.below HW4.o.b)).mono ?_);rintro e wn5 ⟨vz,rfl,hvz,huz,hb5⟩)
     refine Seg.mk ?_;have HW5:=Hh (HW4.o.step hb5);have HA5:=Hh (HA4.o.step hb5);have HVz:=Hh (Ai hvz huz);clear hvz huz;clear hb5;refine aG _ ?_ rfl rfl ?_ (fun K hK=>?_);rotate_left;(intro w0;go_simp;(try rfl));(go_simp;refine hK _ ?_;clear hK K)
     exact aQ [.pointer (some ⟨g4,0,none⟩),Iz va,Iz vb,Iz fv,Iz vz,.agg #[.string (s.extract 0 4),Iz va,Iz vb,Iz fv,Iz vz]] ⟨g4,va,vb,vz,rfl,HVa.o,HVb.o,HVz.o,HA5.o,HW5.o⟩ rfl
    ·go_wp2_with (go_at_call 85;(with_reducible refine (N2.o _ (HE.o.below HW1.o.b)).mono ?_);rintro e wn2 ⟨vb,rfl,hvb,hub,hb2⟩)
     refine Seg.mk ?_;have HW2:=Hh (HW1.o.step hb2);have HVb:=Hh (Ai hvb hub);clear hvb hub;clear hb2;refine aF _ rfl ?_ ?_
     ·refine aF _ rfl trivial ?_
      go_wp2_with fail
      refine Seg.mk ?_;have HA3:=Hh (HW2.o.made);have HW3:=Hh (HW2.o.step ((Br _ _).alloc (o:=.cells #[.string ⟨#[]⟩,Iz 0,Iz 0,Iz 0,Iz 0] 58) (Lr _)));generalize wn2.alloc _=wn3 at HW3 HA3 ⊢;generalize wn2.heap.size=g4 at HA3 ⊢;refine aF _ rfl trivial ?_
      go_wp2_with (go_at_call 86;(with_reducible refine (FO.o _).mono ?_);rintro e wn4 ⟨rfl,hb4⟩)
      refine Seg.mk ?_;have HW4:=Hh (HW3.o.step hb4);have HA4:=Hh (HA3.o.step hb4);clear hb4;refine aF _ rfl trivial ?_
      go_wp2_with (go_at_call 85;(with_reducible refine (N3.o _ (HE.o.below HW4.o.b)).mono ?_);rintro e wn5 ⟨vz,rfl,hvz,huz,hb5⟩)
      refine Seg.mk ?_;have HW5:=Hh (HW4.o.step hb5);have HA5:=Hh (HA4.o.step hb5);have HVz:=Hh (Ai hvz huz);clear hvz huz;clear hb5;refine aG _ ?_ rfl rfl ?_ (fun K hK=>?_);rotate_left;(intro w0;go_simp;(try rfl));(go_simp;refine hK _ ?_;clear hK K)
      exact aQ [.pointer (some ⟨g4,0,none⟩),Iz va,Iz vb,Iz fv,Iz vz,.agg #[.string (s.extract 0 4),Iz va,Iz vb,Iz fv,Iz vz]] ⟨g4,va,vb,vz,rfl,HVa.o,HVb.o,HVz.o,HA5.o,HW5.o⟩ rfl
     ·go_wp2_with (go_at_call 86;(with_reducible refine (FO.o _).mono ?_);rintro e wn3 ⟨rfl,hb3⟩)
      refine Seg.mk ?_;have HW3:=Hh (HW2.o.step hb3);clear hb3;refine aF _ rfl ?_ ?_
      ·refine aF _ rfl trivial ?_
       go_wp2_with fail
       refine Seg.mk ?_;have HA4:=Hh (HW3.o.made);have HW4:=Hh (HW3.o.step ((Br _ _).alloc (o:=.cells #[.string ⟨#[]⟩,Iz 0,Iz 0,Iz 0,Iz 0] 58) (Lr _)));generalize wn3.alloc _=wn4 at HW4 HA4 ⊢;generalize wn3.heap.size=g4 at HA4 ⊢;refine aF _ rfl trivial ?_
       go_wp2_with (go_at_call 85;(with_reducible refine (N3.o _ (HE.o.below HW4.o.b)).mono ?_);rintro e wn5 ⟨vz,rfl,hvz,huz,hb5⟩)
       refine Seg.mk ?_;have HW5:=Hh (HW4.o.step hb5);have HA5:=Hh (HA4.o.step hb5);have HVz:=Hh (Ai hvz huz);clear hvz huz;clear hb5;refine aG _ ?_ rfl rfl ?_ (fun K hK=>?_);rotate_left;(intro w0;go_simp;(try rfl));(go_simp;refine hK _ ?_;clear hK K)
       exact aQ [.pointer (some ⟨g4,0,none⟩),Iz va,Iz vb,Iz fv,Iz vz,.agg #[.string (s.extract 0 4),Iz va,Iz vb,Iz fv,Iz vz]] ⟨g4,va,vb,vz,rfl,HVa.o,HVb.o,HVz.o,HA5.o,HW5.o⟩ rfl
      ·go_wp2_with (go_at_call 85;(with_reducible refine (N3.o _ (HE.o.below HW3.o.b)).mono ?_);rintro e wn4 ⟨vz,rfl,hvz,huz,hb4⟩)
       refine Seg.mk ?_;have HW4:=Hh (HW3.o.step hb4);have HVz:=Hh (Ai hvz huz);clear hvz huz;clear hb4;refine aG _ ?_ rfl rfl ?_ (fun K hK=>?_);rotate_left;(intro w0;go_simp;(try rfl));(go_simp;refine hK _ ?_;clear hK K)
       refine aF _ rfl trivial ?_
       go_wp2_with fail
       refine Seg.mk ?_;have HA5:=Hh (HW4.o.made);have HW5:=Hh (HW4.o.step ((Br _ _).alloc (o:=.cells #[.string ⟨#[]⟩,Iz 0,Iz 0,Iz 0,Iz 0] 58) (Lr _)));generalize wn4.alloc _=wn5 at HW5 HA5 ⊢;generalize wn4.heap.size=g4 at HA5 ⊢;exact aQ [.pointer (some ⟨g4,0,none⟩),Iz va,Iz vb,Iz fv,Iz vz,.agg #[.string (s.extract 0 4),Iz va,Iz vb,Iz fv,Iz vz]] ⟨g4,va,vb,vz,rfl,HVa.o,HVb.o,HVz.o,HA5.o,HW5.o⟩ rfl
 ·have HP:=Hh (aHx hs)
  have q1:((s.size:Int) != 17)=true:=by simp;omega
  have q2:((s.size:Int) == 17)=false:=by simp;omega
  clear hs hT hE
  go_enter func51,ntmps51
  go_upto_region 1 with fail
  generalize w.alloc _=w1 at b0 k0 ⊢;have f0:=lA k0;have c0:=dM k0;have K0:=Hh k0;have B0:=Hh b0;clear k0 b0
  go_wp2
  refine rZ (x0:=.string ⟨#[]⟩) (x1:=Iz 0) (x2:=Iz 0) (x3:=Iz 0) (x4:=Iz 0) (v:=Iz 10) K0.o rfl rfl rfl rfl ?_;exact ⟨by unfold pvV pvE;rw [HP.o];rfl,B0.o.grown (iJ _ _ _ _ _ _ _) B0.o.size (fun k hk=>by cases hk;exact Lr _)⟩
end Go.Proofs.YtncdpanfefnjlaaGreatDoor