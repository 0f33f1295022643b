/- Hexadecimal digits: what the library reads. -/
import Derived.Test.YtcklddldejejcaaGreatDoorVhx
import Derived.Lib.AtoiAllCases
set_option linter.unusedVariables false
set_option linter.unusedSimpArgs false
set_option maxHeartbeats 6400000
set_option maxRecDepth 1000000
namespace Go.Proofs.YtcklddldejejcaaGreatDoor
open Go Go.ChangeShapes Go.WideShapes Go.ChangeAt Go.RowKit
def vdV (n:Nat):Nat:=if 48≤n∧n≤57 then n - 48 else (bits .or .u8 (n:Int) 32).toNat - 87
theorem vdV_hex {c:UInt8} {x:Nat} (h:vhD c=some x):((48≤c.toNat∧c.toNat≤57)∨(¬ (48≤c.toNat∧c.toNat≤57)∧97≤bits .or .u8 (c.toNat:Int) 32∧bits .or .u8 (c.toNat:Int) 32≤122))∧vdV c.toNat=x∧x<16:=by
 have:∀n:Fin 256,(vhD (UInt8.ofNat n.1)).isSome=true→((48≤n.1∧n.1≤57)∨(¬ (48≤n.1∧n.1≤57)∧97≤bits .or .u8 (n.1:Int) 32∧bits .or .u8 (n.1:Int) 32≤122))∧vdV n.1=(vhD (UInt8.ofNat n.1)).getD 0∧(vhD (UInt8.ofNat n.1)).getD 0<16:=by decide +kernel
 have hc:=this ⟨c.toNat,c.toNat_lt⟩
 rw [show UInt8.ofNat c.toNat=c from UInt8.ofNat_toNat,h] at hc
 exact hc rfl
def vhV (l:List UInt8):Nat:=l.foldl (fun a c=>a * 16+vdV c.toNat) 0
theorem vhV_snoc (l:List UInt8) (c:UInt8):vhV (l++[c])=vhV l * 16+vdV c.toNat:=by unfold vhV;rw [List.foldl_append];rfl
theorem vhN_inv:∀ {l:List UInt8} {v:Nat},vhN l=some v→(∀c,c ∈ l→∃x,vhD c=some x)∧v=vhV l:=by
 have key:∀ (k:Nat) (l:List UInt8) (v:Nat),l.length=k→vhN l=some v→(∀c,c ∈ l→∃x,vhD c=some x)∧v=vhV l:=by
  intro k
  induction k with
  | zero=>
   intro l v hl h
   rw [List.length_eq_zero_iff.1 hl] at h ⊢
   cases h
   exact ⟨fun c hc=>(by cases hc),rfl⟩
  | succ k ih=>
   intro l v hl h
   have hne:l ≠ []:=by intro e;subst e;cases hl
   rw [←List.dropLast_concat_getLast hne] at h ⊢
   have hdl:l.dropLast.length=k:=by rw [List.length_dropLast];omega
   generalize l.dropLast=t at h hdl ⊢
   generalize l.getLast hne=c at h ⊢
   rw [vhN_snoc] at h
   cases ht:vhN t with
   | none=>rw [ht] at h;cases h
   | some m=>
    cases hd:vhD c with
    | none=>rw [ht,hd] at h;cases h
    | some d=>
     rw [ht,hd] at h
     have h:16 * m+d=v:=Option.some.inj h
     obtain ⟨i1,i2⟩:=ih t m hdl ht
     refine ⟨fun x hx=>?_,?_⟩
     ·rcases List.mem_append.1 hx with hx | hx
      ·exact i1 x hx
      ·cases List.mem_singleton.1 hx;exact ⟨d,hd⟩
     ·rw [vhV_snoc,(vdV_hex hd).2.1,←i2,←h];omega
 intro l v h
 exact key _ l v rfl h
def VErr (w:World):Prop:=∃t p,w.cell? ⟨7,0,none⟩=some (.iface t p)
theorem VErr.below {w w':World} (h:VErr w) (hb:Below w.heap.size w w'):VErr w':=by
 obtain ⟨t,p,h1⟩:=h
 exact ⟨t,p,(hb.cell (p:=⟨_,0,none⟩) (cell_lt h1)).trans h1⟩
theorem vlower_any (c:Int) (w:World):Calls Tryz.prog 234 #[.int .u8 c] w fun e w'=>e=.returned (.int .u8 (bits .or .u8 c 32))∧w=w':=by
 go_enter Tryz.func234,Tryz.ntmps234
 go_wp2
 go_ret
 exact ⟨rfl,rfl⟩
def VnPost (s:ByteArray) (w:World) (e:Ending) (w':World):Prop:=∃ (v:Nat) (ev:Value),e=.returned (.tuple #[.int .u64 (v:Int),ev])∧v<16777216∧(ev=.nilIface∨ev=.iface 227 (.int .i64 2))∧(∀u,vhN s.data.toList=some u→0<s.size→v=u∧ev=.nilIface)∧Below w.heap.size w w'
theorem vipu_any (s:ByteArray) (w:World) (hs:s.size≤6):Calls Tryz.prog 204 #[.string s,.int .i64 16,.int .i64 64] w (VnPost s w):=by
 have qm:IntKind.u64.wrap (IntKind.u64.wrap 18446744073709551616 - 1)=18446744073709551615:=by decide
 by_cases hne:s.size=0
 ·have hnil:s.data.toList=[]:=List.length_eq_zero_iff.1 (by rw [←Lib.size_eq];exact hne)
  have hemp:s.toList.isEmpty=true:=by rw [Lib.toList_data,hnil];rfl
  go_enter Tryz.func204,Tryz.ntmps204
  go_wp2
  go_ret2
  exact ⟨0,_,rfl,by decide,.inr rfl,(fun u hu h0=>by omega),Br _ _⟩
 ·have hemp:s.toList.isEmpty=false:=by
   rw [Lib.toList_data]
   cases h:s.data.toList with
   | nil=>have:=Lib.size_eq s;rw [h,List.length_nil] at this;omega
   | cons _ _=>rfl
  have hB:∀j,j<s.size→(Lib.bytesWorld w 5 s).cell? ⟨w.heap.size,j,none⟩=some (.int .u8 (s.data.toList.getD j 0).toNat):=fun j hj=>Lib.bytesWorld_cell w 5 s j hj
  have hcv:=Lib.run_convert_string_bytes (P:=Tryz.prog) w 9 73 5 s (u:=.string) Tryz.underlying9 Tryz.underlying73 Tryz.underlying5
  have hbl:Below w.heap.size w (Lib.bytesWorld w 5 s):=Lib.bytesWorld_below _ _ _
  obtain ⟨W1,hW1⟩:∃W1,W1=Lib.bytesWorld w 5 s:=⟨_,rfl⟩
  rw [←hW1] at hcv hB hbl
  clear hW1
  obtain ⟨bs,hL⟩:∃bs,bs=s.data.toList:=⟨_,rfl⟩
  have hLn:bs.length=s.size:=by rw [hL,Lib.size_eq]
  have HL:=Hh hL
  rw [←hL] at hB
  clear hL
  go_enter Tryz.func204,Tryz.ntmps204
  go_upto_region 36 with fail
  go_loopw [12,13,101] (fun vu vn vi wr=>∃ (k a:Nat) (z:Int),vu=.bool false∧vn=.int .u64 z∧vi=.int .i64 (k:Int)∧wr=W1∧k≤s.size∧Hid (z=(a:Int)∧a<16 ^ k∧a=vhV (bs.take k))) (fun _ _ vi _=>s.size - (intOf vi).toNat)
  case atStart=>exact ⟨0,0,0,rfl,rfl,rfl,rfl,by omega,Hh ⟨rfl,by decide,rfl⟩⟩
  case round=>
   obtain ⟨k,a,z,rfl,rfl,rfl,rfl,hk,hh0⟩:=hrel
   obtain ⟨hza,hh⟩:=hh0.out
   have hh:=Hh hh
   clear hh0
   by_cases hkn:k<s.size
   ·have hc:=hB k hkn
    have hg:bs[k]?=some (bs.getD k 0):=by rw [List.getD_eq_getElem?_getD,List.getElem?_eq_getElem (by omega)];rfl
    generalize bs.getD k 0=c at hc hg
    have HG:=Hh hg
    clear hg hB
    have hc256:c.toNat<256:=c.toNat_lt
    have ha16:a<1048576:=by
     have h1:=hh.out.1
     have h2:16 ^ k≤16 ^ 5:=Nat.pow_le_pow_right (by decide) (by omega)
     have h3:16 ^ 5=1048576:=by decide
     omega
    have hac:z<1152921504606846976:=by omega
    have hbad:¬ (((48≤c.toNat∧c.toNat≤57)∨(¬ (48≤c.toNat∧c.toNat≤57)∧97≤bits .or .u8 (c.toNat:Int) 32∧bits .or .u8 (c.toNat:Int) 32≤122))∧vdV c.toNat<16)→∀u,¬vhN s.data.toList=some u:=by
     intro hno u hu
     rw [←HL.out] at hu
     obtain ⟨x,hx⟩:=(vhN_inv hu).1 c (List.mem_of_getElem? HG.out)
     obtain ⟨g1,g2,g3⟩:=vdV_hex hx
     exact hno ⟨g1,by omega⟩
    have HBAD:=Hh hbad
    have HH:=Hh hh.out
    have hlo:=bits_lo_u8 .or (c.toNat:Int) 32
    have hhi:=bits_hi_u8 .or (c.toNat:Int) 32
    have LOW:=Hh (fun wx=>vlower_any (c.toNat:Int) wx)
    have hdv:¬ (48≤c.toNat∧c.toNat≤57)→vdV c.toNat=(bits .or .u8 (c.toNat:Int) 32).toNat - 87:=fun h=>by unfold vdV;rw [if_neg h]
    have hdw:(48≤c.toNat∧c.toNat≤57)→vdV c.toNat=c.toNat - 48:=fun h=>by unfold vdV;rw [if_pos h]
    have h95:c.toNat=95→bits .or .u8 (c.toNat:Int) 32=127:=fun h=>by rw [h];decide
    have NX:Hid (vdV c.toNat<16→a * 16+vdV c.toNat<16 ^ (k+1)∧a * 16+vdV c.toNat=vhV (bs.take (k+1))):=Hh fun h=>by
     refine ⟨by rw [Nat.pow_succ];have:=hh.out.1;omega,?_⟩
     rw [List.take_add_one,HG.out,Option.toList_some,vhV_snoc,←hh.out.2]
    clear hbad hh HG
    obtain ⟨D,hD⟩:∃D,D=vdV c.toNat:=⟨_,rfl⟩
    rw [←hD] at HBAD hdv hdw NX
    clear hD
    generalize bits .or .u8 (c.toNat:Int) 32=Z at HBAD hlo hhi LOW hdv h95
    generalize c.toNat=n at HBAD hlo hhi LOW hdv hdw h95 hc hc256
    have hn0:(0:Int)≤(n:Int):=by omega
    have hn1:(n:Int)<256:=by omega
    have ha0:(0:Int)≤z:=by omega
    have HZA:=Hh hza
    by_cases hdig:48≤n∧n≤57
    ·have hDn:=hdw hdig
     have q1:(48:Int)≤(n:Int):=by omega
     have q2:(n:Int)≤57:=by omega
     have q3:((n:Int) == 95)=false:=by simp;omega
     obtain ⟨dz,hdz⟩:∃dz:Int,dz=(D:Int):=⟨_,rfl⟩
     obtain ⟨nz,hnz⟩:∃nz:Int,nz=((a * 16+D:Nat):Int):=⟨_,rfl⟩
     have w0:(n:Int) - 48=dz:=by omega
     have w2:IntKind.u64.wrap (z * 16)=z * 16:=by rw [IntKind.wrap_u64];omega
     have w3:IntKind.u64.wrap (z * 16+dz)=nz:=by rw [IntKind.wrap_u64];omega
     have w4:z * 16+dz=nz:=by omega
     have q4:dz<16:=by omega
     have q5:(0:Int)≤dz:=by omega
     have q6:¬nz<z * 16:=by omega
     have q7:nz≤18446744073709551615:=by omega
     have q8:¬ (18446744073709551615:Int)<nz:=by omega
     have NX2:=Hh (NX.out (by omega))
     have HNZ:=Hh hnz
     clear NX hdv hdw h95 HBAD hDn hlo hhi LOW hdig hza ha16 hdz hnz HH
     go_wp2
     go_roundw
     case rel=>exact ⟨k+1,a * 16+D,nz,rfl,rfl,by go_num,trivial,by omega,Hh ⟨HNZ.out,NX2.out⟩⟩
     case measure=>simp [intOf];omega
    ·have hDn:=hdv hdig
     have hdg:¬ (48:Int)≤(n:Int)∨¬ (n:Int)≤57:=by omega
     by_cases hlet:97≤Z∧Z≤122
     ·have q3:((n:Int) == 95)=false:=by
       have:n ≠ 95:=fun e=>by have:=h95 e;omega
       simp;omega
      obtain ⟨l1,l2⟩:=hlet
      obtain ⟨dz,hdz⟩:∃dz:Int,dz=(D:Int):=⟨_,rfl⟩
      have w0:Z - 97+10=dz:=by omega
      have w1:IntKind.u8.wrap (Z - 97)=Z - 97:=by rw [IntKind.wrap_u8];omega
      have w2:IntKind.u8.wrap (Z - 97+10)=dz:=by rw [IntKind.wrap_u8];omega
      have w4:IntKind.u8.wrap dz=dz:=by rw [IntKind.wrap_u8];omega
      have q5:(0:Int)≤dz:=by omega
      have q6:dz≤35:=by omega
      by_cases hd16:D<16
      ·obtain ⟨nz,hnz⟩:∃nz:Int,nz=((a * 16+D:Nat):Int):=⟨_,rfl⟩
       have w5:IntKind.u64.wrap (z * 16)=z * 16:=by rw [IntKind.wrap_u64];omega
       have w6:IntKind.u64.wrap (z * 16+dz)=nz:=by rw [IntKind.wrap_u64];omega
       have w7:z * 16+dz=nz:=by omega
       have q4:dz<16:=by omega
       have q7:¬nz<z * 16:=by omega
       have q8:nz≤18446744073709551615:=by omega
       have q9:¬ (18446744073709551615:Int)<nz:=by omega
       have NX2:=Hh (NX.out (by omega))
       have HNZ:=Hh hnz
       clear NX hdv hdw h95 HBAD hDn hza ha16 hdz hnz HH hd16 hdig
       rcases hdg with q1 | q1
       ·go_wp2_with (go_at_call 234;(with_reducible refine (LOW.out _).mono ?_);rintro e w1 ⟨rfl,rfl⟩)
        go_roundw
        case rel=>exact ⟨k+1,a * 16+D,nz,rfl,rfl,by go_num,trivial,by omega,Hh ⟨HNZ.out,NX2.out⟩⟩
        case measure=>simp [intOf];omega
       ·have q0:(48:Int)≤(n:Int):=by omega
        go_wp2_with (go_at_call 234;(with_reducible refine (LOW.out _).mono ?_);rintro e w1 ⟨rfl,rfl⟩)
        go_roundw
        case rel=>exact ⟨k+1,a * 16+D,nz,rfl,rfl,by go_num,trivial,by omega,Hh ⟨HNZ.out,NX2.out⟩⟩
        case measure=>simp [intOf];omega
      ·have q4:¬dz<16:=by omega
       have HB2:=Hh (HBAD.out (fun h=>hd16 h.2))
       clear NX hdv hdw h95 HBAD hDn hza ha16 hdz HH hd16 hdig
       rcases hdg with q1 | q1
       ·go_wp2_with (go_at_call 234;(with_reducible refine (LOW.out _).mono ?_);rintro e w1 ⟨rfl,rfl⟩)
        go_ret2
        exact ⟨0,_,rfl,by decide,.inr rfl,(fun u hu _=>absurd hu (HB2.out u)),hbl⟩
       ·have q0:(48:Int)≤(n:Int):=by omega
        go_wp2_with (go_at_call 234;(with_reducible refine (LOW.out _).mono ?_);rintro e w1 ⟨rfl,rfl⟩)
        go_ret2
        exact ⟨0,_,rfl,by decide,.inr rfl,(fun u hu _=>absurd hu (HB2.out u)),hbl⟩
     ·have HB2:=Hh (HBAD.out (fun h=>h.1.elim hdig (fun h=>hlet h.2)))
      clear NX hdv hdw h95 HBAD hDn hza ha16 HH hdig
      have hlt:¬97≤Z∨¬Z≤122:=by omega
      rcases hlt with l1 | l1
      ·rcases hdg with q1 | q1
       ·by_cases h95:n=95
        ·omega
        ·have q3:((n:Int) == 95)=false:=by simp;omega
         go_wp2_with (go_at_call 234;(with_reducible refine (LOW.out _).mono ?_);rintro e w1 ⟨rfl,rfl⟩)
         go_ret2
         exact ⟨0,_,rfl,by decide,.inr rfl,(fun u hu _=>absurd hu (HB2.out u)),hbl⟩
       ·have q0:(48:Int)≤(n:Int):=by omega
        by_cases h95:n=95
        ·subst h95
         have L2:Hid (∀wx:World,Calls Tryz.prog 234 #[.int .u8 95] wx fun e w'=>e=.returned (.int .u8 Z)∧wx=w'):=LOW
         go_wp2_with (go_at_call 234;(with_reducible refine (L2.out _).mono ?_);rintro e w1 ⟨rfl,rfl⟩)
         go_ret2
         exact ⟨0,_,rfl,by decide,.inr rfl,(fun u hu _=>absurd hu (HB2.out u)),hbl⟩
        ·have q3:((n:Int) == 95)=false:=by simp;omega
         go_wp2_with (go_at_call 234;(with_reducible refine (LOW.out _).mono ?_);rintro e w1 ⟨rfl,rfl⟩)
         go_ret2
         exact ⟨0,_,rfl,by decide,.inr rfl,(fun u hu _=>absurd hu (HB2.out u)),hbl⟩
      ·rcases hdg with q1 | q1
       ·have q3:((n:Int) == 95)=false:=by simp;omega
        have l2:97≤Z:=by omega
        go_wp2_with (go_at_call 234;(with_reducible refine (LOW.out _).mono ?_);rintro e w1 ⟨rfl,rfl⟩)
        go_ret2
        exact ⟨0,_,rfl,by decide,.inr rfl,(fun u hu _=>absurd hu (HB2.out u)),hbl⟩
       ·have q0:(48:Int)≤(n:Int):=by omega
        have l2:97≤Z:=by omega
        by_cases h95:n=95
        ·subst h95
         have L2:Hid (∀wx:World,Calls Tryz.prog 234 #[.int .u8 95] wx fun e w'=>e=.returned (.int .u8 Z)∧wx=w'):=LOW
         go_wp2_with (go_at_call 234;(with_reducible refine (L2.out _).mono ?_);rintro e w1 ⟨rfl,rfl⟩)
         go_ret2
         exact ⟨0,_,rfl,by decide,.inr rfl,(fun u hu _=>absurd hu (HB2.out u)),hbl⟩
        ·have q3:((n:Int) == 95)=false:=by simp;omega
         go_wp2_with (go_at_call 234;(with_reducible refine (LOW.out _).mono ?_);rintro e w1 ⟨rfl,rfl⟩)
         go_ret2
         exact ⟨0,_,rfl,by decide,.inr rfl,(fun u hu _=>absurd hu (HB2.out u)),hbl⟩
   ·have hkk:k=s.size:=by omega
    subst hkk
    have HF:Hid (a<16777216∧∀u,vhN s.data.toList=some u→a=u):=by
     refine Hh ⟨?_,fun u hu=>?_⟩
     ·have h1:=hh.out.1
      have h2:16 ^ s.size≤16 ^ 6:=Nat.pow_le_pow_right (by decide) hs
      have h3:16 ^ 6=16777216:=by decide
      omega
     ·rw [←HL.out] at hu
      rw [hh.out.2,(vhN_inv hu).2,List.take_of_length_le (by omega)]
    subst hza
    clear hh
    go_wp2
    go_ret2
    exact ⟨a,_,rfl,HF.out.1,.inl rfl,fun u hu _=>⟨HF.out.2 u hu,rfl⟩,hbl⟩
def ViPost (s:ByteArray) (w:World) (e:Ending) (w':World):Prop:=∃ (v:Int) (ev:Value),e=.returned (.tuple #[.int .i64 v,ev])∧(-16777216<v∧v<16777216)∧(ev=.nilIface∨ev=.iface 227 (.int .i64 2))∧(∀u,vhN s.data.toList=some u→0<s.size→v=u∧ev=.nilIface)∧Below w.heap.size w w'
theorem vhN_first {s:ByteArray} (h:0<s.size) {u:Nat} (hu:vhN s.data.toList=some u):s[0].toNat ≠ 43∧s[0].toNat ≠ 45:=by
 have hm:s[0] ∈ s.data.toList:=by
  have:=Lib.data_getElem? s 0 h
  exact List.mem_of_getElem? this
 obtain ⟨x,hx⟩:=(vhN_inv hu).1 _ hm
 constructor
 ·intro e
  have:s[0]=43:=UInt8.toNat_inj.1 e
  rw [this] at hx;cases hx
 ·intro e
  have:s[0]=45:=UInt8.toNat_inj.1 e
  rw [this] at hx;cases hx
theorem verr_neq (w:World):(binOp .neq 126 (.iface 227 (.int .i64 2)) (.iface 227 (.int .i64 1))).run Tryz.prog w=.ok (.bool true) w:=by kernel_rfl
theorem vipi_any (s:ByteArray) (w:World) (hs:s.size≤6):Calls Tryz.prog 177 #[.string s,.int .i64 16,.int .i64 64] w (ViPost s w):=by
 by_cases hne:s.size=0
 ·have hnil:s.data.toList=[]:=List.length_eq_zero_iff.1 (by rw [←Lib.size_eq];exact hne)
  have hemp:s.toList.isEmpty=true:=by rw [Lib.toList_data,hnil];rfl
  go_enter Tryz.func177,Tryz.ntmps177
  go_wp2
  go_ret2
  exact ⟨0,_,rfl,by decide,.inr rfl,(fun u hu h0=>by omega),Br _ _⟩
 ·have hemp:s.toList.isEmpty=false:=by
   rw [Lib.toList_data]
   cases h:s.data.toList with
   | nil=>have:=Lib.size_eq s;rw [h,List.length_nil] at this;omega
   | cons _ _=>rfl
  have h0:0<s.size:=by omega
  have PU:Hid (∀ (t:ByteArray) (wx:World),t.size≤6→Calls Tryz.prog 204 #[.string t,.int .i64 16,.int .i64 64] wx (VnPost t wx)):=Hh (fun t wx h=>vipu_any t wx h)
  have HF:=Hh (fun u (hu:vhN s.data.toList=some u)=>vhN_first h0 hu)
  have hx:(s.extract 1 s.size).size≤6:=by rw [ByteArray.size_extract];omega
  have hc255:s[0].toNat<256:=s[0].toNat_lt
  obtain ⟨n,hn⟩:∃n,n=s[0].toNat:=⟨_,rfl⟩
  rw [←hn] at hc255
  go_enter Tryz.func177,Tryz.ntmps177
  go_upto_region 5 with fail
  have HX:Hid (∀u,vhN s.data.toList=some u→n ≠ 43∧n ≠ 45):=Hh (fun u hu=>by rw [hn];exact HF.out u hu)
  rw [←hn]
  have hh1:(1:Int)≤(s.size:Int):=by omega
  have hen:=fun wx=>verr_neq wx
  clear hn HF hne hemp
  by_cases h43:n=43
  ·subst h43
   go_upto_region 12 with ((with_reducible refine (PU.out _ _ hx).mono ?_);rintro e w1 ⟨v,ev,rfl,hv,hev,hh,hb⟩)
   have hv0:¬ (9223372036854775808:Int)≤(v:Int):=by omega
   have HV:=Hh hv
   clear PU hh hv
   rcases hev with rfl | rfl
   ·go_wp2
    go_ret2
    exact ⟨v,_,rfl,by have:=HV.out;omega,.inl rfl,(fun u hu=>absurd rfl (HX.out u hu).1),hb⟩
   ·go_wp2
    go_ret2
    exact ⟨0,_,rfl,by decide,.inr rfl,(fun u hu=>absurd rfl (HX.out u hu).1),hb⟩
  ·by_cases h45:n=45
   ·subst h45
    go_upto_region 12 with ((with_reducible refine (PU.out _ _ hx).mono ?_);rintro e w1 ⟨v,ev,rfl,hv,hev,hh,hb⟩)
    have hv0:¬ (9223372036854775808:Int)<(v:Int):=by omega
    have HV:=Hh hv
    clear PU hh hv
    rcases hev with rfl | rfl
    ·go_wp2
     go_ret2
     exact ⟨wrap64 (-wrap64 (v:Int)),_,rfl,by have:=HV.out;unfold wrap64;omega,.inl rfl,(fun u hu=>absurd rfl (HX.out u hu).2),hb⟩
    ·go_wp2
     go_ret2
     exact ⟨0,_,rfl,by decide,.inr rfl,(fun u hu=>absurd rfl (HX.out u hu).2),hb⟩
   ·have q1:((n:Int) == 43)=false:=by simp;omega
    have q2:((n:Int) == 45)=false:=by simp;omega
    clear h43 h45
    go_upto_region 12 with ((with_reducible refine (PU.out _ _ hs).mono ?_);rintro e w1 ⟨v,ev,rfl,hv,hev,hh,hb⟩)
    have hv0:¬ (9223372036854775808:Int)≤(v:Int):=by omega
    have HV:=Hh hv
    have HH:=Hh hh
    clear PU hh hv
    rcases hev with rfl | rfl
    ·go_wp2
     go_ret2
     exact ⟨v,_,rfl,by have:=HV.out;omega,.inl rfl,(fun u hu h0=>⟨by have:=(HH.out u hu h0).1;omega,rfl⟩),hb⟩
    ·go_wp2
     go_ret2
     exact ⟨0,_,rfl,by decide,.inr rfl,(fun u hu h0=>by have:=(HH.out u hu h0).2;cases this),hb⟩
def VjPost (s:ByteArray) (w:World) (e:Ending) (w':World):Prop:=∃ (v:Int) (ev:Value),e=.returned (.tuple #[.int .i64 v,ev])∧(-16777216<v∧v<16777216)∧(ev=.nilIface∨∃t p,ev=.iface t p)∧(∀u,vhN s.data.toList=some u→0<s.size→v=u∧ev=.nilIface)∧Below w.heap.size w w'
theorem vpi_any (s:ByteArray) (w:World) (hs:s.size≤6) (hE:VErr w):Calls Tryz.prog 124 #[.string s,.int .i64 16,.int .i64 64] w (VjPost s w):=by
 have I:=Hh (vipi_any s w hs)
 have HE:=Hh hE
 clear hE
 go_enter Tryz.func124,Tryz.ntmps124
 go_upto_region 2 with ((with_reducible refine (I.out).mono ?_);rintro e w1 ⟨v,ev,rfl,hv,hev,hh,hb⟩)
 have HV:=Hh (Ai hv hh)
 clear hv hh I
 rcases hev with rfl | rfl
 ·go_wp2
  go_ret2
  exact ⟨v,_,rfl,HV.out.1,.inl rfl,(fun u hu h0=>⟨(HV.out.2 u hu h0).1,rfl⟩),hb⟩
 ·obtain ⟨t,p,h1⟩:=HE.out.below hb
  have T:Hid (Calls Tryz.prog 178 #[.string ⟨#[80,97,114,115,101,73,110,116]⟩,.string s,.int .i64 16,.int .i64 64,.iface 227 (.int .i64 2)] w1 fun e w'=>(∃t p,e=.returned (.iface t p))∧Below w1.heap.size w1 w'):=(Any.strconv_toError_syntax vlays245 ⟨#[80,97,114,115,101,73,110,116]⟩ s 16 64 _ w1 (by omega) h1 (.inr ⟨t,p,rfl⟩)).mono fun e w' ⟨N,h,_,_,hb⟩=>⟨⟨_,_,h⟩,hb⟩
  clear h1
  go_wp2_with (go_at_call 178;(with_reducible refine (T.out).mono ?_);rintro e w2 ⟨⟨t2,p2,rfl⟩,hb2⟩)
  go_ret2
  exact ⟨v,_,rfl,HV.out.1,.inr ⟨_,_,rfl⟩,(fun u hu h0=>by have:=(HV.out.2 u hu h0).2;cases this),hb.trans (hb2.mono hb.size)⟩
def HnPost (s:ByteArray) (w:World) (e:Ending) (w':World):Prop:=∃v:Int,e=.returned (.int .i64 v)∧(-16777216<v∧v<16777216)∧(∀u,vhN s.data.toList=some u→0<s.size→v=u)∧Below w.heap.size w w'
theorem hnum_any (s:ByteArray) (w:World) (hs:s.size≤6) (hE:VErr w):Calls Tryz.prog 79 #[.string s] w (HnPost s w):=by
 have I:=Hh (vpi_any s w hs hE)
 clear hE
 go_enter Tryz.func79,Tryz.ntmps79
 go_upto_region 2 with ((with_reducible refine (I.out).mono ?_);rintro e w1 ⟨v,ev,rfl,hv,hev,hh,hb⟩)
 have HV:=Hh (Ai hv hh)
 clear hv hh I
 rcases hev with rfl | ⟨t,p,rfl⟩
 ·go_wp2
  go_ret
  exact ⟨v,rfl,HV.out.1,fun u hu h0=>(HV.out.2 u hu h0).1,hb⟩
 ·go_wp2
  go_ret
  exact ⟨0,rfl,by decide,fun u hu h0=>(by have:=(HV.out.2 u hu h0).2;cases this),hb⟩
end Go.Proofs.YtcklddldejejcaaGreatDoor
namespace Go.Proofs.YtcklddldejejcaaGreatDoor
open Go Go.Maps Go.ChangeShapes Go.WideShapes Go.ChangeAt Go.RowKit
def bV (l:List UInt8):ByteArray:=⟨l.toArray⟩
theorem bV_size (l:List UInt8):(bV l).size=l.length:=by show l.toArray.size=_;simp
theorem bV_of (s:ByteArray):bV s.data.toList=s:=by cases s;simp [bV]
theorem bV_app (a b:List UInt8):bV a++bV b=bV (a++b):=by apply ByteArray.ext;simp [bV]
theorem vt_parts {v:VD} (h:validV v=true):∃s1 s2 s3 s4 t1 t2 t3 t4:ByteArray,s1=bV (vhL 1 v.a.toNat)∧s2=bV (vhL 1 v.b.toNat)∧s3=bV (formL v.f)∧s4=bV (vhL 6 v.z.toNat)∧v.p++s1=t1∧t1++s2=t2∧t2++s3=t3∧t3++s4=t4∧t4++⟨#[95]⟩=vtS v∧v.p.size=4∧s1.size=1∧s2.size=1∧s3.size=4∧s4.size=6∧t1.size=5∧t2.size=6∧t3.size=10∧t4.size=16:=by
 obtain ⟨h1,h2,h3,h4,h5⟩:=validV_parts h
 have hp:v.p.size=4:=by rw [←h1,Array.length_toList];rfl
 have hf:=(formL_len h2).1
 refine ⟨_,_,_,_,_,_,_,_,rfl,rfl,rfl,rfl,rfl,rfl,rfl,rfl,?_,hp,?_,?_,?_,?_,?_,?_,?_,?_⟩
 ·unfold vtS
  rw [if_pos h]
  show _=bV (textV v)
  unfold textV
  rw [←bV_app,←bV_app,←bV_app,←bV_app,←bV_app,bV_of]
  simp only [ByteArray.append_assoc]
  rfl
 all_goals simp only [ByteArray.size_append,bV_size,vhL_length,hf,hp]
theorem hext_z (z:Int) (k:Nat) (y:Int) (hy:(k:Int)=y) (h0:0≤z) (h1:z≤16777215) (hk:z.toNat<16 ^ k) (hk1:1≤k) (hk6:k≤6) (w:World) (hT:DB w):Calls Tryz.prog 70 #[.int .i64 z,.int .i64 y] w fun e w'=>e=.returned (.string (bV (vhL k z.toNat)))∧Below w.heap.size w w':=by
 have:=hext_any z.toNat k y hy (by omega) hk hk1 hk6 w hT
 rw [Int.toNat_of_nonneg h0] at this
 exact this
def FiveC (g:Nat) (v:VD) (w:World):Prop:=w.cell? ⟨g,0,none⟩=some (.string v.p)∧w.cell? ⟨g,1,none⟩=some (.int .i64 v.a)∧w.cell? ⟨g,2,none⟩=some (.int .i64 v.b)∧w.cell? ⟨g,3,none⟩=some (.int .i64 v.f)∧w.cell? ⟨g,4,none⟩=some (.int .i64 v.z)
theorem FiveC.below {g:Nat} {v:VD} {w w':World} (h:FiveC g v w) (hb:Below w.heap.size w w'):FiveC g v w':=five_keep hb (cell_lt h.1) h
def TxPostV (v:VD) (w:World) (e:Ending) (w':World):Prop:=e=.returned (.tuple #[.string (vtS v),.int .i64 (vtE v)])∧Below w.heap.size w w'
theorem vertext_any (v:VD) (w:World) (hv:WideV v) (hT:DB w):Calls Tryz.prog 35 #[.agg (vcs v)] w (TxPostV v w):=by
 have VA:=Hh (fun wx:World=>vvalid_any v wx hv)
 have HT:=Hh hT
 unfold vcs at *
 have b0:=(Br w.heap.size w).alloc (o:=.cells #[.string v.p,.int .i64 v.a,.int .i64 v.b,.int .i64 v.f,.int .i64 v.z] 37) (Lr _)
 have k0:=Hn w (.cells #[.string v.p,.int .i64 v.a,.int .i64 v.b,.int .i64 v.f,.int .i64 v.z] 37)
 cases hval:validV v with
 | false=>
  rw [hval] at VA
  have HE:Hid (vtS v=⟨#[]⟩∧vtE v=2):=Hh (by unfold vtS vtE;rw [hval];exact ⟨rfl,rfl⟩)
  clear hval hT hv
  go_enter Tryz.func35,Tryz.ntmps35
  go_upto_region 1 with fail
  generalize w.alloc _=w1 at b0 k0 ⊢
  have hc:=five_of k0
  have HB:=Hh b0
  clear b0 k0
  go_wp2_with (go_at_call 37;(with_reducible refine (VA.out _).mono ?_);rintro e w2 ⟨rfl,hb2⟩)
  go_ret2
  exact ⟨by rw [HE.out.1,HE.out.2];rfl,HB.out.trans (hb2.mono HB.out.size)⟩
 | true=>
  rw [hval] at VA
  obtain ⟨s1,s2,s3,s4,t1,t2,t3,t4,e1,e2,e3,e4,c1,c2,c3,c4,c5,z0,z1,z2,z3,z4,y1,y2,y3,y4⟩:=vt_parts hval
  obtain ⟨-,hf,ha,hb,hz⟩:=validV_parts hval
  have HA:Hid (∀wx,DB wx→Calls Tryz.prog 70 #[.int .i64 v.a,.int .i64 1] wx fun e w'=>e=.returned (.string s1)∧Below wx.heap.size wx w'):=Hh fun wx h=>by rw [e1];exact hext_z v.a 1 1 rfl ha.1 (by omega) (by omega) (by decide) (by decide) wx h
  have HBB:Hid (∀wx,DB wx→Calls Tryz.prog 70 #[.int .i64 v.b,.int .i64 1] wx fun e w'=>e=.returned (.string s2)∧Below wx.heap.size wx w'):=Hh fun wx h=>by rw [e2];exact hext_z v.b 1 1 rfl hb.1 (by omega) (by omega) (by decide) (by decide) wx h
  have HZ:Hid (∀wx,DB wx→Calls Tryz.prog 70 #[.int .i64 v.z,.int .i64 6] wx fun e w'=>e=.returned (.string s4)∧Below wx.heap.size wx w'):=Hh fun wx h=>by rw [e4];exact hext_z v.z 6 6 rfl hz.1 (by omega) (by omega) (by decide) (by decide) wx h
  have FN:=Hh (fun wx:World=>fnames_any wx)
  have HF:=Hh hv.f
  have E3:=Hh e3
  have HE:Hid (t4++⟨#[95]⟩=vtS v∧vtE v=0):=Hh ⟨c5,by unfold vtE;rw [hval];rfl⟩
  have l1:¬9223372036854775807<v.p.size+s1.size:=by omega
  have l2:¬9223372036854775807<t1.size+s2.size:=by omega
  have l3:¬9223372036854775807<t2.size+s3.size:=by omega
  have l4:¬9223372036854775807<t3.size+s4.size:=by omega
  have l5:¬9223372036854775807<t4.size+1:=by omega
  clear hval hT hv e1 e2 e3 e4 c5 z0 z1 z2 z3 z4 y1 y2 y3 y4 ha hb hz hf
  go_enter Tryz.func35,Tryz.ntmps35
  go_upto_region 1 with fail
  generalize w.alloc _=w1 at b0 k0 ⊢
  have hc:=five_of k0
  have HB:=Hh b0
  have hF1:FiveC w.heap.size v w1:=hc
  have HF1:=Hh hF1
  clear b0 k0 hF1
  go_upto_region 3 with ((with_reducible refine (VA.out _).mono ?_);rintro e w2 ⟨rfl,hb2⟩)
  have hF2:=HF1.out.below hb2
  have HB2:=Hh (HB.out.trans (hb2.mono HB.out.size))
  clear hb2 hc HB HF1 VA
  refine wp_region_plan (FiveC w.heap.size v) [1,3,7,12,16] (.take 0 (.take 1 (.take 2 (.take 3 (.take 6 (.take 7 (.take 11 (.take 12 (.take 15 (.take 16 (.ask 4 true (.take 5 (.ask 8 true (.take 9 (.ask 10 true (Plan.join true (.ask 13 true (.take 14 (.ask 17 true .stop .stop)) (.ask 17 true (.ask 13 true (.take 14 .stop) .stop) .stop)) (.ask 18 false (.take 19 (.take 20 (.take 21 .stop))) .stop)) .stop)) .stop)) .stop))))))))))) (by kernel_rfl) (by kernel_rfl) (fun _ d _ _ _ h=>by cases d <;> exact h) (hF2.below ((Br _ _).drew)) ?_
  have hF3:=hF2.below ((Br w2.heap.size w2).drew)
  have HB3:=Hh (HB2.out.trans (((Br w2.heap.size w2).drew).mono HB2.out.size))
  generalize w2.drew=wd at hF3 HB3 ⊢
  have HF3:=Hh hF3
  clear hF2 hF3 HB2
  refine take_any _ ?_ rfl rfl ?_ (fun K hK=>?_);rotate_left;(intro w0;go_simp;(try rfl));(go_simp;refine hK _ ?_;clear hK K)
  refine take_held _ ?_ rfl rfl (by decide) ?_ (fun K hK=>?_);rotate_left;(intro w0 hw0;obtain ⟨q0,q1,q2,q3,q4⟩:=hw0;go_simp;(try rfl));(go_simp;refine hK _ ?_;clear hK K)
  refine take_any _ ?_ rfl rfl ?_ (fun K hK=>?_);rotate_left;(intro w0;go_simp;(try rfl));(go_simp;refine hK _ ?_;clear hK K)
  refine take_held _ ?_ rfl rfl (by decide) ?_ (fun K hK=>?_);rotate_left;(intro w0 hw0;obtain ⟨q0,q1,q2,q3,q4⟩:=hw0;go_simp;(try rfl));(go_simp;refine hK _ ?_;clear hK K)
  refine take_any _ ?_ rfl rfl ?_ (fun K hK=>?_);rotate_left;(intro w0;go_simp;(try rfl));(go_simp;refine hK _ ?_;clear hK K)
  refine take_held _ ?_ rfl rfl (by decide) ?_ (fun K hK=>?_);rotate_left;(intro w0 hw0;obtain ⟨q0,q1,q2,q3,q4⟩:=hw0;go_simp;(try rfl));(go_simp;refine hK _ ?_;clear hK K)
  refine take_any _ ?_ rfl rfl ?_ (fun K hK=>?_);rotate_left;(intro w0;go_simp;(try rfl));(go_simp;refine hK _ ?_;clear hK K)
  refine take_held _ ?_ rfl rfl (by decide) ?_ (fun K hK=>?_);rotate_left;(intro w0 hw0;obtain ⟨q0,q1,q2,q3,q4⟩:=hw0;go_simp;(try rfl));(go_simp;refine hK _ ?_;clear hK K)
  refine take_any _ ?_ rfl rfl ?_ (fun K hK=>?_);rotate_left;(intro w0;go_simp;(try rfl));(go_simp;refine hK _ ?_;clear hK K)
  refine take_held _ ?_ rfl rfl (by decide) ?_ (fun K hK=>?_);rotate_left;(intro w0 hw0;obtain ⟨q0,q1,q2,q3,q4⟩:=hw0;go_simp;(try rfl));(go_simp;refine hK _ ?_;clear hK K)
  refine ask_step _ rfl trivial ?_;go_wp2_with (go_at_call 70;(with_reducible refine (HA.out _ (HT.out.below HB3.out)).mono ?_);rintro e w4 ⟨rfl,hb4⟩)
  have HF4:=Hh (HF3.out.below hb4)
  have HB4:=Hh (HB3.out.trans (hb4.mono HB3.out.size))
  refine Seg.mk ⟨HF4.out,?_⟩
  clear hb4 HB3 HF3 HA
  refine take_any _ ?_ rfl rfl ?_ (fun K hK=>?_);rotate_left;(intro w0;go_simp;(try rfl));(go_simp;refine hK _ ?_;clear hK K)
  refine ask_step _ rfl trivial ?_;go_wp2_with (go_at_call 70;(with_reducible refine (HBB.out _ (HT.out.below HB4.out)).mono ?_);rintro e w5 ⟨rfl,hb5⟩)
  have HF5:=Hh (HF4.out.below hb5)
  have HB5:=Hh (HB4.out.trans (hb5.mono HB4.out.size))
  refine Seg.mk ⟨HF5.out,?_⟩
  clear hb5 HB4 HF4 HBB
  refine take_any _ ?_ rfl rfl ?_ (fun K hK=>?_);rotate_left;(intro w0;go_simp;(try rfl));(go_simp;refine hK _ ?_;clear hK K)
  refine ask_step _ rfl trivial ?_;go_wp2_with (go_at_call 71;(with_reducible refine (FN.out _).mono ?_);rintro e w6 ⟨rfl,hl6,hb6⟩)
  have HF6:=Hh (HF5.out.below hb6)
  have HB6:=Hh (HB5.out.trans (hb6.mono HB5.out.size))
  have hl6s:w5.heap.size<w6.heap.size:=hl6.lt
  refine Seg.mk ⟨HF6.out,?_⟩
  have HL6:=Hh hl6
  clear hb6 HB5 HF5 FN hl6
  generalize w5.heap.size=m at HL6 hl6s ⊢
  have LK:Hid (∀wx,Fnames wx m→(Instr.lookup 85 (.map (some m)) (.int .i64 v.f) false).run Tryz.prog wx=.ok (.string s3) wx):=Hh fun wx h=>by rw [E3.out];exact h.look1 HF.out.1 HF.out.2
  clear E3 HF
  refine plan_cut [20,21,24] (fun vs wx=>vs=[.string s3,.string t3,.string s4]∧Below w.heap.size w wx) ?_ ?_
  rotate_left
  ·rintro vs w7 ⟨rfl,hb7⟩
   simp only [puts,Act.put,List.setIfInBounds_toArray,List.set_cons_zero,List.set_cons_succ]
   have HB7:=Hh hb7
   clear hb7 HB6 HF6 HL6 LK HZ
   refine ask_late _ rfl trivial ?_;go_wp2_with fail;refine Seg.mk ?_
   refine take_any _ ?_ rfl rfl ?_ (fun K hK=>?_);rotate_left;(intro w0;go_simp;(try rfl));(go_simp;refine hK _ ?_;clear hK K)
   refine take_any _ ?_ rfl rfl ?_ (fun K hK=>?_);rotate_left;(intro w0;go_simp;(try rfl));(go_simp;refine hK _ ?_;clear hK K)
   refine take_any _ ?_ rfl rfl ?_ (fun K hK=>?_);rotate_left;(intro w0;go_simp;(try rfl));(go_simp;refine hK _ ?_;clear hK K)
   unfold wpPlan
   go_wp2
   go_ret2
   exact ⟨by rw [←HE.out.1,HE.out.2];rfl,HB7.out⟩
  ·refine ask_step _ rfl ?alt ?_
   rotate_left
   ·have hlk:=LK.out _ HL6.out
    clear LK
    go_wp2_with fail
    refine Seg.mk ⟨HF6.out,?_⟩
    clear hlk
    refine take_any _ ?_ rfl rfl ?_ (fun K hK=>?_);rotate_left;(intro w0;go_simp;(try rfl));(go_simp;refine hK _ ?_;clear hK K)
    refine ask_step _ rfl trivial ?_;go_wp2_with (go_at_call 70;(with_reducible refine (HZ.out _ (HT.out.below HB6.out)).mono ?_);rintro e w7 ⟨rfl,hb7⟩)
    refine Seg.mk ⟨HF6.out.below hb7,?_⟩
    exact plan_meet [.string s3,.string t3,.string s4] ⟨rfl,HB6.out.trans (hb7.mono HB6.out.size)⟩ rfl
   ·refine ask_step _ rfl trivial ?_;go_wp2_with (go_at_call 70;(with_reducible refine (HZ.out _ (HT.out.below HB6.out)).mono ?_);rintro e w7 ⟨rfl,hb7⟩)
    have HF7:=Hh (HF6.out.below hb7)
    refine Seg.mk ⟨HF7.out,?_⟩
    have hlk:=LK.out _ (HL6.out.below hb7)
    have HB7:=Hh (HB6.out.trans (hb7.mono HB6.out.size))
    clear LK hb7
    refine ask_step _ rfl trivial ?_;go_wp2_with fail
    refine Seg.mk ⟨HF7.out,?_⟩
    clear hlk
    refine take_any _ ?_ rfl rfl ?_ (fun K hK=>?_);rotate_left;(intro w0;go_simp;(try rfl));(go_simp;refine hK _ ?_;clear hK K)
    exact plan_meet [.string s3,.string t3,.string s4] ⟨rfl,HB7.out⟩ rfl
end Go.Proofs.YtcklddldejejcaaGreatDoor