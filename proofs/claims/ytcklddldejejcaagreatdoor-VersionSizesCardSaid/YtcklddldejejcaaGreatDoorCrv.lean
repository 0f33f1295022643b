/- The document's reader of the second serialisation: read, text. -/
import Derived.Test.YtcklddldejejcaaGreatDoorCen
import Derived.BigQuiet
import Derived.Deep.QuietTactic
import Derived.Laws.BitsAllLaws
import Derived.Lib.EndianBits
set_option linter.unusedVariables false
set_option linter.unusedSimpArgs false
set_option maxHeartbeats 3200000
set_option maxRecDepth 100000
namespace Go.Proofs.YtcklddldejejcaaGreatDoor
open Go Go.ChangeShapes Go.WideShapes Go.ChangeAt Go.RowKit
theorem cdrop_at {l:List UInt8} {p:Nat} {c:UInt8} (h:l[p]?=some c):l.drop p=c::l.drop (p+1):=by
 have hp:p<l.length:=lt_of_some h
 rw [List.drop_eq_getElem_cons hp]
 rw [List.getElem?_eq_getElem hp] at h
 rw [Option.some.inj h]
theorem or_low (N c:Nat) (hN:N * 256<18446744073709551616) (hc:c<256):bits BinOp.or IntKind.u64 ((N:Int) * 256) (c:Int)=((N * 256+c:Nat):Int):=by
 have e:((N:Int) * 256)=((N * 256:Nat):Int):=by omega
 rw [e,u64_or_nat _ _ hN (by omega),Nat.or_comm,←u64_or_nat _ _ (by omega) hN]
 have h:=u64_or8 (y:=(c:Int)) (x:=((N * 256:Nat):Int)) (by omega) (by omega) (by omega) (by omega) (by omega)
 rw [show bits BinOp.or IntKind.u64 (c:Int) ((N * 256:Nat):Int)=_ from h]
 omega
theorem and31:∀c:UInt8,bits BinOp.and IntKind.u8 (c.toNat:Int) 31=((c.toNat % 32:Nat):Int):=by
 have:∀c:Fin 256,bits BinOp.and IntKind.u8 (c.1:Int) 31=((c.1 % 32:Nat):Int):=by decide +kernel
 exact fun c=>this ⟨c.toNat,c.toNat_lt⟩
theorem bigV_snoc (l:List UInt8) (c:UInt8):bigV (l++[c])=bigV l * 256+c.toNat:=by unfold bigV;rw [List.foldl_append];rfl
theorem bigV_lt:∀l:List UInt8,bigV l<256 ^ l.length
 | []=>by simp [bigV]
 | c::t=>by
  have h1:=bigV_lt t
  have h2:=c.toNat_lt
  rw [bigV_cons,List.length_cons,Nat.pow_succ]
  have h3:c.toNat * 256 ^ t.length≤255 * 256 ^ t.length:=Nat.mul_le_mul_right _ (by omega)
  omega
def HeadAt (l:List UInt8) (p:Nat) (m n:Nat) (q:Int):Prop:=∀M N t,M<8→N<18446744073709551616→l.drop p=headL M N++t→m=M∧n=N∧0≤q∧t=l.drop q.toNat
theorem headV_cases {N:Nat} (h:N<18446744073709551616):(headV N<24∧headK N=0∧N=headV N)∨(24≤headV N∧headV N≤27∧headK N=2 ^ (headV N - 24)∧N<256 ^ headK N):=by
 unfold headV headK
 (repeat' split) <;> first
  | (left;omega)
  | (right;refine ⟨by decide,by decide,by decide,?_⟩;simp only [Nat.reducePow];omega)
theorem head_first {l:List UInt8} {p:Nat} {c:UInt8} (hc:l[p]?=some c) {M N:Nat} {t:List UInt8} (hM:M<8) (h:l.drop p=headL M N++t):c.toNat / 32=M∧c.toNat % 32=headV N∧l.drop (p+1)=bigL N (headK N)++t:=by
 rw [cdrop_at hc] at h
 unfold headL at h
 rw [List.cons_append] at h
 obtain ⟨h1,h2⟩:=List.cons.inj h
 have h3:=congrArg UInt8.toNat h1
 rw [UInt8.toNat_ofNat'] at h3
 have:=headV_lt N
 exact ⟨by omega,by omega,h2⟩
def RdPost (s:ByteArray) (p:Nat) (w:World) (e:Ending) (w':World):Prop:=∃ (m n:Nat) (q:Int),e=.returned (.tuple #[.int .i64 (m:Int),.int .u64 (n:Int),.int .i64 q])∧Below w.heap.size w w'∧m<8∧n<18446744073709551616∧(q=-1∨((p:Int)<q∧q≤(s.size:Int)))∧HeadAt s.data.toList p m n q
theorem rread_any (s:ByteArray) (p:Nat) (w:World) (hp:p≤s.size) (hs:s.size≤1000000):Calls Tryz.prog 132 #[.string s,.int .i64 (p:Int)] w (RdPost s p w):=by
 obtain ⟨l,hl⟩:∃l,l=s.data.toList:=⟨_,rfl⟩
 have hsz:l.length=s.size:=by rw [hl,Array.length_toList];rfl
 have HSZ:=Hh hsz
 have HL:=Hh hl
 have HGET:Hid (∀ (p:Nat) (h:p<s.size),l[p]?=some (s[p]'h)):=Hh fun p h=>by rw [hl,List.getElem?_eq_getElem (by rw [Array.length_toList];exact h)];rfl
 have hsi:(s.size:Int)≤1000000:=by omega
 have hpz:(0:Int)≤(p:Int):=by omega
 have hpd:decide ((p:Int)<0)=false:=decide_eq_false (by omega)
 clear hsz
 by_cases hpn:p<s.size
 ·have hpj:(p:Int)<(s.size:Int):=by omega
  have hpj2:¬ (s.size:Int)≤(p:Int):=by omega
  have gc:=HGET.out p hpn
  obtain ⟨c,hcc⟩:∃c,c=s[p]'hpn:=⟨_,rfl⟩
  rw [←hcc] at gc
  have hc':=hcc.symm
  have ha:=and31 c
  obtain ⟨v,hv⟩:∃v,v=c.toNat % 32:=⟨_,rfl⟩
  obtain ⟨m,hm⟩:∃m,m=c.toNat / 32:=⟨_,rfl⟩
  rw [←hv] at ha
  have hmi:(c.toNat:Int) / 32=(m:Int):=by omega
  have hm8:m<8:=by have:=c.toNat_lt;omega
  have hv32:v<32:=by omega
  have HF:Hid (∀M N t,M<8→N<18446744073709551616→l.drop p=headL M N++t→m=M∧v=headV N∧l.drop (p+1)=bigL N (headK N)++t):=Hh fun M N t hM hN h=>by
   obtain ⟨h1,h2,h3⟩:=head_first gc hM h
   exact ⟨hm.trans h1,hv.trans h2,h3⟩
  clear hcc gc hv hm
  by_cases h24:v<24
  ·have h24':(v:Int)<24:=by omega
   have hw3:IntKind.i64.wrap ((p:Int)+1)=(p:Int)+1:=IntWalk.i64_in _ (by omega)
   have hfin:HeadAt l p m v ((p:Int)+1):=fun M N t hM hN h=>by
    obtain ⟨h1,h2,h3⟩:=HF.out M N t hM hN h
    rcases headV_cases hN with ⟨h4,h5,h6⟩ | ⟨h4,-,-,-⟩
    ·rw [h5] at h3
     exact ⟨h1,by omega,by omega,by rw [show ((p:Int)+1).toNat=p+1 by omega,h3];rfl⟩
    ·omega
   have HFN:=Hh hfin
   clear hfin
   go_enter Tryz.func132,Tryz.ntmps132
   go_wp2
   go_quiet (fail)
   go_wp2
   go_ret3
   exact ⟨m,v,(p:Int)+1,rfl,bdrewN (Br _ _) _,hm8,by omega,.inr ⟨by omega,by omega⟩,by rw [←HL.out];exact HFN.out⟩
  ·have h24':¬ (v:Int)<24:=by omega
   by_cases h27:27<v
   ·have h27':(27:Int)<(v:Int):=by omega
    have hno:HeadAt l p 0 0 (-1):=fun M N t hM hN h=>by
     obtain ⟨-,h2,h3⟩:=HF.out M N t hM hN h
     rcases headV_cases hN with ⟨h4,-,-⟩ | ⟨-,h5,-,-⟩ <;> omega
    have HNO:=Hh hno
    clear hno
    go_enter Tryz.func132,Tryz.ntmps132
    go_wp2
    go_quiet (fail)
    go_wp2
    go_ret3
    exact ⟨0,0,-1,rfl,bdrewN (Br _ _) _,by decide,by decide,.inl rfl,by rw [←HL.out];exact HNO.out⟩
   ·have h27':¬ (27:Int)<(v:Int):=by omega
    have hv4:v=24∨v=25∨v=26∨v=27:=by omega
    rcases hv4 with hvv | hvv | hvv | hvv
    ·go_enter Tryz.func132,Tryz.ntmps132
     go_wp2
     go_quiet (fail)
     have HVK:Hid (v=24):=Hh hvv
     subst hvv
     by_cases hlen:(s.size:Int) - (p:Int) - 1<1
     ·have hno:HeadAt l p 0 0 (-1):=fun M N t hM hN h=>by
       obtain ⟨-,h2,h3⟩:=HF.out M N t hM hN h
       rcases headV_cases hN with ⟨h4,-,-⟩ | ⟨-,-,h5,-⟩
       ·omega
       ·rw [←h2,show (2:Nat) ^ (24 - 24)=1 by decide] at h5
        have h6:=congrArg List.length h3
        rw [List.length_drop,Lg,bigL_length,h5] at h6
        have:=HSZ.out
        omega
      have HNO:=Hh hno
      clear hno
      go_wp2
      go_ret3
      exact ⟨0,0,-1,rfl,bdrewN (Br _ _) _,by decide,by decide,.inl rfl,by rw [←HL.out];exact HNO.out⟩
     ·have hlk:p+1+1≤s.size:=by omega
      go_upto_region 13 with fail
      go_loopw [10,51] (fun vn vi wr=>∃ (j:Nat) (N:Int),vi=.int .i64 j∧j≤1∧vn=.int .u64 N∧N=(bigV ((l.drop (p+1)).take j):Int)∧Below w.heap.size w wr) (fun _ vi _=>1 - (intOf vi).toNat)
      case atStart=>exact ⟨0,0,rfl,by decide,rfl,by simp [bigV],bdrewN (Br _ _) _⟩
      case round=>
       obtain ⟨j,N,rfl,hj,rfl,hN,hB⟩:=hrel
       have HB:=Hh hB
       by_cases hjk:j<1
       ·have hjk':(j:Int)<1:=by omega
        have hj0:(0:Int)≤(j:Int):=by omega
        obtain ⟨pj,hpj'⟩:∃pj,pj=p+1+j:=⟨_,rfl⟩
        have hpjn:pj<s.size:=by omega
        have hpji:(pj:Int)<(s.size:Int):=by omega
        have hpjz:(0:Int)≤(pj:Int):=by omega
        obtain ⟨p1,hp1⟩:∃p1,p1=p+1:=⟨_,rfl⟩
        have e1:(p:Int)+1=(p1:Int):=by omega
        have e2:(p1:Int)+(j:Int)=(pj:Int):=by omega
        have gj:=HGET.out pj hpjn
        obtain ⟨cj,hcj⟩:∃cj,cj=s[pj]'hpjn:=⟨_,rfl⟩
        rw [←hcj] at gj
        have hcj':=hcj.symm
        have hb1:=bigV_lt ((l.drop (p+1)).take j)
        have hlj:((l.drop (p+1)).take j).length=j:=by rw [List.length_take,List.length_drop];have:=HSZ.out;omega
        rw [hlj] at hb1
        have hb2:(256:Nat) ^ j≤256 ^ 7:=Nat.pow_le_pow_right (by decide) (by omega)
        have h7:(256:Nat) ^ 7=72057594037927936:=by decide
        have hw0:IntKind.u64.wrap (cj.toNat:Int)=(cj.toNat:Int):=by rw [IntKind.wrap_u64];have:=cj.toNat_lt;omega
        have hw1:IntKind.u64.wrap (N * 256)=N * 256:=by rw [IntKind.wrap_u64];omega
        have hw2:bits BinOp.or IntKind.u64 (N * 256) (cj.toNat:Int)=(bigV ((l.drop (p+1)).take (j+1)):Int):=by
         rw [hN,or_low _ _ (by omega) cj.toNat_lt,List.take_add_one,List.getElem?_drop,←hpj',gj]
         show _=((bigV (_++[cj]):Nat):Int)
         rw [bigV_snoc]
        obtain ⟨N2,hN2⟩:∃N2:Int,N2=(bigV ((l.drop (p+1)).take (j+1)):Int):=⟨_,rfl⟩
        rw [←hN2] at hw2
        have HN2:=Hh hN2
        have HP:=Hh (Ai hpj' hp1)
        clear hb1 hlj hb2 h7 hN hN2 gj hcj hB hpj' hp1
        go_wp2
        go_roundw
        case rel=>exact ⟨j+1,N2,by go_num,by omega,rfl,HN2.out,HB.out⟩
        case measure=>simp [intOf] <;> omega
       ·have hjk':¬ (j:Int)<1:=by omega
        have hje:j=1:=by omega
        have hfin:HeadAt l p m (bigV ((l.drop (p+1)).take 1)) ((p:Int)+1+1):=fun M N' t hM hN' h=>by
         obtain ⟨h1,h2,h3⟩:=HF.out M N' t hM hN' h
         rcases headV_cases hN' with ⟨h4,-,-⟩ | ⟨-,-,h5,h6⟩
         ·omega
         ·rw [←h2,show (2:Nat) ^ (24 - 24)=1 by decide] at h5
          rw [h5] at h3 h6
          have h7:(bigL N' 1).length=1:=bigL_length _ _
          refine ⟨h1,?_,by omega,?_⟩
          ·rw [h3,List.take_left' h7,bigL_back h6]
          ·rw [show ((p:Int)+1+1).toNat=p+1+1 by omega,←List.drop_drop,h3,List.drop_left' h7]
        have hbv:bigV ((l.drop (p+1)).take 1)<18446744073709551616:=by
         have h1:=bigV_lt ((l.drop (p+1)).take 1)
         have h2:((l.drop (p+1)).take 1).length≤8:=by rw [List.length_take];omega
         have h3:(256:Nat) ^ ((l.drop (p+1)).take 1).length≤256 ^ 8:=Nat.pow_le_pow_right (by decide) h2
         have h8:(256:Nat) ^ 8=18446744073709551616:=by decide
         omega
        rw [hje] at hN
        have HFN:=Hh (Ai hN (Ai hfin hbv))
        have hw4:IntKind.i64.wrap ((p:Int)+1+1)=(p:Int)+1+1:=IntWalk.i64_in _ (by omega)
        clear hN hfin hbv hje hB
        go_wp2
        go_ret3
        exact ⟨m,bigV ((l.drop (p+1)).take 1),(p:Int)+1+1,by rw [←HFN.out.1];rfl,HB.out,hm8,HFN.out.2.2,.inr ⟨by omega,by omega⟩,by rw [←HL.out];exact HFN.out.2.1⟩
    ·go_enter Tryz.func132,Tryz.ntmps132
     go_wp2
     go_quiet (fail)
     have HVK:Hid (v=25):=Hh hvv
     subst hvv
     by_cases hlen:(s.size:Int) - (p:Int) - 1<2
     ·have hno:HeadAt l p 0 0 (-1):=fun M N t hM hN h=>by
       obtain ⟨-,h2,h3⟩:=HF.out M N t hM hN h
       rcases headV_cases hN with ⟨h4,-,-⟩ | ⟨-,-,h5,-⟩
       ·omega
       ·rw [←h2,show (2:Nat) ^ (25 - 24)=2 by decide] at h5
        have h6:=congrArg List.length h3
        rw [List.length_drop,Lg,bigL_length,h5] at h6
        have:=HSZ.out
        omega
      have HNO:=Hh hno
      clear hno
      go_wp2
      go_ret3
      exact ⟨0,0,-1,rfl,bdrewN (Br _ _) _,by decide,by decide,.inl rfl,by rw [←HL.out];exact HNO.out⟩
     ·have hlk:p+1+2≤s.size:=by omega
      go_upto_region 13 with fail
      go_loopw [10,51] (fun vn vi wr=>∃ (j:Nat) (N:Int),vi=.int .i64 j∧j≤2∧vn=.int .u64 N∧N=(bigV ((l.drop (p+1)).take j):Int)∧Below w.heap.size w wr) (fun _ vi _=>2 - (intOf vi).toNat)
      case atStart=>exact ⟨0,0,rfl,by decide,rfl,by simp [bigV],bdrewN (Br _ _) _⟩
      case round=>
       obtain ⟨j,N,rfl,hj,rfl,hN,hB⟩:=hrel
       have HB:=Hh hB
       by_cases hjk:j<2
       ·have hjk':(j:Int)<2:=by omega
        have hj0:(0:Int)≤(j:Int):=by omega
        obtain ⟨pj,hpj'⟩:∃pj,pj=p+1+j:=⟨_,rfl⟩
        have hpjn:pj<s.size:=by omega
        have hpji:(pj:Int)<(s.size:Int):=by omega
        have hpjz:(0:Int)≤(pj:Int):=by omega
        obtain ⟨p1,hp1⟩:∃p1,p1=p+1:=⟨_,rfl⟩
        have e1:(p:Int)+1=(p1:Int):=by omega
        have e2:(p1:Int)+(j:Int)=(pj:Int):=by omega
        have gj:=HGET.out pj hpjn
        obtain ⟨cj,hcj⟩:∃cj,cj=s[pj]'hpjn:=⟨_,rfl⟩
        rw [←hcj] at gj
        have hcj':=hcj.symm
        have hb1:=bigV_lt ((l.drop (p+1)).take j)
        have hlj:((l.drop (p+1)).take j).length=j:=by rw [List.length_take,List.length_drop];have:=HSZ.out;omega
        rw [hlj] at hb1
        have hb2:(256:Nat) ^ j≤256 ^ 7:=Nat.pow_le_pow_right (by decide) (by omega)
        have h7:(256:Nat) ^ 7=72057594037927936:=by decide
        have hw0:IntKind.u64.wrap (cj.toNat:Int)=(cj.toNat:Int):=by rw [IntKind.wrap_u64];have:=cj.toNat_lt;omega
        have hw1:IntKind.u64.wrap (N * 256)=N * 256:=by rw [IntKind.wrap_u64];omega
        have hw2:bits BinOp.or IntKind.u64 (N * 256) (cj.toNat:Int)=(bigV ((l.drop (p+1)).take (j+1)):Int):=by
         rw [hN,or_low _ _ (by omega) cj.toNat_lt,List.take_add_one,List.getElem?_drop,←hpj',gj]
         show _=((bigV (_++[cj]):Nat):Int)
         rw [bigV_snoc]
        obtain ⟨N2,hN2⟩:∃N2:Int,N2=(bigV ((l.drop (p+1)).take (j+1)):Int):=⟨_,rfl⟩
        rw [←hN2] at hw2
        have HN2:=Hh hN2
        have HP:=Hh (Ai hpj' hp1)
        clear hb1 hlj hb2 h7 hN hN2 gj hcj hB hpj' hp1
        go_wp2
        go_roundw
        case rel=>exact ⟨j+1,N2,by go_num,by omega,rfl,HN2.out,HB.out⟩
        case measure=>simp [intOf] <;> omega
       ·have hjk':¬ (j:Int)<2:=by omega
        have hje:j=2:=by omega
        have hfin:HeadAt l p m (bigV ((l.drop (p+1)).take 2)) ((p:Int)+1+2):=fun M N' t hM hN' h=>by
         obtain ⟨h1,h2,h3⟩:=HF.out M N' t hM hN' h
         rcases headV_cases hN' with ⟨h4,-,-⟩ | ⟨-,-,h5,h6⟩
         ·omega
         ·rw [←h2,show (2:Nat) ^ (25 - 24)=2 by decide] at h5
          rw [h5] at h3 h6
          have h7:(bigL N' 2).length=2:=bigL_length _ _
          refine ⟨h1,?_,by omega,?_⟩
          ·rw [h3,List.take_left' h7,bigL_back h6]
          ·rw [show ((p:Int)+1+2).toNat=p+1+2 by omega,←List.drop_drop,h3,List.drop_left' h7]
        have hbv:bigV ((l.drop (p+1)).take 2)<18446744073709551616:=by
         have h1:=bigV_lt ((l.drop (p+1)).take 2)
         have h2:((l.drop (p+1)).take 2).length≤8:=by rw [List.length_take];omega
         have h3:(256:Nat) ^ ((l.drop (p+1)).take 2).length≤256 ^ 8:=Nat.pow_le_pow_right (by decide) h2
         have h8:(256:Nat) ^ 8=18446744073709551616:=by decide
         omega
        rw [hje] at hN
        have HFN:=Hh (Ai hN (Ai hfin hbv))
        have hw4:IntKind.i64.wrap ((p:Int)+1+2)=(p:Int)+1+2:=IntWalk.i64_in _ (by omega)
        clear hN hfin hbv hje hB
        go_wp2
        go_ret3
        exact ⟨m,bigV ((l.drop (p+1)).take 2),(p:Int)+1+2,by rw [←HFN.out.1];rfl,HB.out,hm8,HFN.out.2.2,.inr ⟨by omega,by omega⟩,by rw [←HL.out];exact HFN.out.2.1⟩
    ·go_enter Tryz.func132,Tryz.ntmps132
     go_wp2
     go_quiet (fail)
     have HVK:Hid (v=26):=Hh hvv
     subst hvv
     by_cases hlen:(s.size:Int) - (p:Int) - 1<4
     ·have hno:HeadAt l p 0 0 (-1):=fun M N t hM hN h=>by
       obtain ⟨-,h2,h3⟩:=HF.out M N t hM hN h
       rcases headV_cases hN with ⟨h4,-,-⟩ | ⟨-,-,h5,-⟩
       ·omega
       ·rw [←h2,show (2:Nat) ^ (26 - 24)=4 by decide] at h5
        have h6:=congrArg List.length h3
        rw [List.length_drop,Lg,bigL_length,h5] at h6
        have:=HSZ.out
        omega
      have HNO:=Hh hno
      clear hno
      go_wp2
      go_ret3
      exact ⟨0,0,-1,rfl,bdrewN (Br _ _) _,by decide,by decide,.inl rfl,by rw [←HL.out];exact HNO.out⟩
     ·have hlk:p+1+4≤s.size:=by omega
      go_upto_region 13 with fail
      go_loopw [10,51] (fun vn vi wr=>∃ (j:Nat) (N:Int),vi=.int .i64 j∧j≤4∧vn=.int .u64 N∧N=(bigV ((l.drop (p+1)).take j):Int)∧Below w.heap.size w wr) (fun _ vi _=>4 - (intOf vi).toNat)
      case atStart=>exact ⟨0,0,rfl,by decide,rfl,by simp [bigV],bdrewN (Br _ _) _⟩
      case round=>
       obtain ⟨j,N,rfl,hj,rfl,hN,hB⟩:=hrel
       have HB:=Hh hB
       by_cases hjk:j<4
       ·have hjk':(j:Int)<4:=by omega
        have hj0:(0:Int)≤(j:Int):=by omega
        obtain ⟨pj,hpj'⟩:∃pj,pj=p+1+j:=⟨_,rfl⟩
        have hpjn:pj<s.size:=by omega
        have hpji:(pj:Int)<(s.size:Int):=by omega
        have hpjz:(0:Int)≤(pj:Int):=by omega
        obtain ⟨p1,hp1⟩:∃p1,p1=p+1:=⟨_,rfl⟩
        have e1:(p:Int)+1=(p1:Int):=by omega
        have e2:(p1:Int)+(j:Int)=(pj:Int):=by omega
        have gj:=HGET.out pj hpjn
        obtain ⟨cj,hcj⟩:∃cj,cj=s[pj]'hpjn:=⟨_,rfl⟩
        rw [←hcj] at gj
        have hcj':=hcj.symm
        have hb1:=bigV_lt ((l.drop (p+1)).take j)
        have hlj:((l.drop (p+1)).take j).length=j:=by rw [List.length_take,List.length_drop];have:=HSZ.out;omega
        rw [hlj] at hb1
        have hb2:(256:Nat) ^ j≤256 ^ 7:=Nat.pow_le_pow_right (by decide) (by omega)
        have h7:(256:Nat) ^ 7=72057594037927936:=by decide
        have hw0:IntKind.u64.wrap (cj.toNat:Int)=(cj.toNat:Int):=by rw [IntKind.wrap_u64];have:=cj.toNat_lt;omega
        have hw1:IntKind.u64.wrap (N * 256)=N * 256:=by rw [IntKind.wrap_u64];omega
        have hw2:bits BinOp.or IntKind.u64 (N * 256) (cj.toNat:Int)=(bigV ((l.drop (p+1)).take (j+1)):Int):=by
         rw [hN,or_low _ _ (by omega) cj.toNat_lt,List.take_add_one,List.getElem?_drop,←hpj',gj]
         show _=((bigV (_++[cj]):Nat):Int)
         rw [bigV_snoc]
        obtain ⟨N2,hN2⟩:∃N2:Int,N2=(bigV ((l.drop (p+1)).take (j+1)):Int):=⟨_,rfl⟩
        rw [←hN2] at hw2
        have HN2:=Hh hN2
        have HP:=Hh (Ai hpj' hp1)
        clear hb1 hlj hb2 h7 hN hN2 gj hcj hB hpj' hp1
        go_wp2
        go_roundw
        case rel=>exact ⟨j+1,N2,by go_num,by omega,rfl,HN2.out,HB.out⟩
        case measure=>simp [intOf] <;> omega
       ·have hjk':¬ (j:Int)<4:=by omega
        have hje:j=4:=by omega
        have hfin:HeadAt l p m (bigV ((l.drop (p+1)).take 4)) ((p:Int)+1+4):=fun M N' t hM hN' h=>by
         obtain ⟨h1,h2,h3⟩:=HF.out M N' t hM hN' h
         rcases headV_cases hN' with ⟨h4,-,-⟩ | ⟨-,-,h5,h6⟩
         ·omega
         ·rw [←h2,show (2:Nat) ^ (26 - 24)=4 by decide] at h5
          rw [h5] at h3 h6
          have h7:(bigL N' 4).length=4:=bigL_length _ _
          refine ⟨h1,?_,by omega,?_⟩
          ·rw [h3,List.take_left' h7,bigL_back h6]
          ·rw [show ((p:Int)+1+4).toNat=p+1+4 by omega,←List.drop_drop,h3,List.drop_left' h7]
        have hbv:bigV ((l.drop (p+1)).take 4)<18446744073709551616:=by
         have h1:=bigV_lt ((l.drop (p+1)).take 4)
         have h2:((l.drop (p+1)).take 4).length≤8:=by rw [List.length_take];omega
         have h3:(256:Nat) ^ ((l.drop (p+1)).take 4).length≤256 ^ 8:=Nat.pow_le_pow_right (by decide) h2
         have h8:(256:Nat) ^ 8=18446744073709551616:=by decide
         omega
        rw [hje] at hN
        have HFN:=Hh (Ai hN (Ai hfin hbv))
        have hw4:IntKind.i64.wrap ((p:Int)+1+4)=(p:Int)+1+4:=IntWalk.i64_in _ (by omega)
        clear hN hfin hbv hje hB
        go_wp2
        go_ret3
        exact ⟨m,bigV ((l.drop (p+1)).take 4),(p:Int)+1+4,by rw [←HFN.out.1];rfl,HB.out,hm8,HFN.out.2.2,.inr ⟨by omega,by omega⟩,by rw [←HL.out];exact HFN.out.2.1⟩
    ·go_enter Tryz.func132,Tryz.ntmps132
     go_wp2
     go_quiet (fail)
     have HVK:Hid (v=27):=Hh hvv
     subst hvv
     by_cases hlen:(s.size:Int) - (p:Int) - 1<8
     ·have hno:HeadAt l p 0 0 (-1):=fun M N t hM hN h=>by
       obtain ⟨-,h2,h3⟩:=HF.out M N t hM hN h
       rcases headV_cases hN with ⟨h4,-,-⟩ | ⟨-,-,h5,-⟩
       ·omega
       ·rw [←h2,show (2:Nat) ^ (27 - 24)=8 by decide] at h5
        have h6:=congrArg List.length h3
        rw [List.length_drop,Lg,bigL_length,h5] at h6
        have:=HSZ.out
        omega
      have HNO:=Hh hno
      clear hno
      go_wp2
      go_ret3
      exact ⟨0,0,-1,rfl,bdrewN (Br _ _) _,by decide,by decide,.inl rfl,by rw [←HL.out];exact HNO.out⟩
     ·have hlk:p+1+8≤s.size:=by omega
      go_upto_region 13 with fail
      go_loopw [10,51] (fun vn vi wr=>∃ (j:Nat) (N:Int),vi=.int .i64 j∧j≤8∧vn=.int .u64 N∧N=(bigV ((l.drop (p+1)).take j):Int)∧Below w.heap.size w wr) (fun _ vi _=>8 - (intOf vi).toNat)
      case atStart=>exact ⟨0,0,rfl,by decide,rfl,by simp [bigV],bdrewN (Br _ _) _⟩
      case round=>
       obtain ⟨j,N,rfl,hj,rfl,hN,hB⟩:=hrel
       have HB:=Hh hB
       by_cases hjk:j<8
       ·have hjk':(j:Int)<8:=by omega
        have hj0:(0:Int)≤(j:Int):=by omega
        obtain ⟨pj,hpj'⟩:∃pj,pj=p+1+j:=⟨_,rfl⟩
        have hpjn:pj<s.size:=by omega
        have hpji:(pj:Int)<(s.size:Int):=by omega
        have hpjz:(0:Int)≤(pj:Int):=by omega
        obtain ⟨p1,hp1⟩:∃p1,p1=p+1:=⟨_,rfl⟩
        have e1:(p:Int)+1=(p1:Int):=by omega
        have e2:(p1:Int)+(j:Int)=(pj:Int):=by omega
        have gj:=HGET.out pj hpjn
        obtain ⟨cj,hcj⟩:∃cj,cj=s[pj]'hpjn:=⟨_,rfl⟩
        rw [←hcj] at gj
        have hcj':=hcj.symm
        have hb1:=bigV_lt ((l.drop (p+1)).take j)
        have hlj:((l.drop (p+1)).take j).length=j:=by rw [List.length_take,List.length_drop];have:=HSZ.out;omega
        rw [hlj] at hb1
        have hb2:(256:Nat) ^ j≤256 ^ 7:=Nat.pow_le_pow_right (by decide) (by omega)
        have h7:(256:Nat) ^ 7=72057594037927936:=by decide
        have hw0:IntKind.u64.wrap (cj.toNat:Int)=(cj.toNat:Int):=by rw [IntKind.wrap_u64];have:=cj.toNat_lt;omega
        have hw1:IntKind.u64.wrap (N * 256)=N * 256:=by rw [IntKind.wrap_u64];omega
        have hw2:bits BinOp.or IntKind.u64 (N * 256) (cj.toNat:Int)=(bigV ((l.drop (p+1)).take (j+1)):Int):=by
         rw [hN,or_low _ _ (by omega) cj.toNat_lt,List.take_add_one,List.getElem?_drop,←hpj',gj]
         show _=((bigV (_++[cj]):Nat):Int)
         rw [bigV_snoc]
        obtain ⟨N2,hN2⟩:∃N2:Int,N2=(bigV ((l.drop (p+1)).take (j+1)):Int):=⟨_,rfl⟩
        rw [←hN2] at hw2
        have HN2:=Hh hN2
        have HP:=Hh (Ai hpj' hp1)
        clear hb1 hlj hb2 h7 hN hN2 gj hcj hB hpj' hp1
        go_wp2
        go_roundw
        case rel=>exact ⟨j+1,N2,by go_num,by omega,rfl,HN2.out,HB.out⟩
        case measure=>simp [intOf] <;> omega
       ·have hjk':¬ (j:Int)<8:=by omega
        have hje:j=8:=by omega
        have hfin:HeadAt l p m (bigV ((l.drop (p+1)).take 8)) ((p:Int)+1+8):=fun M N' t hM hN' h=>by
         obtain ⟨h1,h2,h3⟩:=HF.out M N' t hM hN' h
         rcases headV_cases hN' with ⟨h4,-,-⟩ | ⟨-,-,h5,h6⟩
         ·omega
         ·rw [←h2,show (2:Nat) ^ (27 - 24)=8 by decide] at h5
          rw [h5] at h3 h6
          have h7:(bigL N' 8).length=8:=bigL_length _ _
          refine ⟨h1,?_,by omega,?_⟩
          ·rw [h3,List.take_left' h7,bigL_back h6]
          ·rw [show ((p:Int)+1+8).toNat=p+1+8 by omega,←List.drop_drop,h3,List.drop_left' h7]
        have hbv:bigV ((l.drop (p+1)).take 8)<18446744073709551616:=by
         have h1:=bigV_lt ((l.drop (p+1)).take 8)
         have h2:((l.drop (p+1)).take 8).length≤8:=by rw [List.length_take];omega
         have h3:(256:Nat) ^ ((l.drop (p+1)).take 8).length≤256 ^ 8:=Nat.pow_le_pow_right (by decide) h2
         have h8:(256:Nat) ^ 8=18446744073709551616:=by decide
         omega
        rw [hje] at hN
        have HFN:=Hh (Ai hN (Ai hfin hbv))
        have hw4:IntKind.i64.wrap ((p:Int)+1+8)=(p:Int)+1+8:=IntWalk.i64_in _ (by omega)
        clear hN hfin hbv hje hB
        go_wp2
        go_ret3
        exact ⟨m,bigV ((l.drop (p+1)).take 8),(p:Int)+1+8,by rw [←HFN.out.1];rfl,HB.out,hm8,HFN.out.2.2,.inr ⟨by omega,by omega⟩,by rw [←HL.out];exact HFN.out.2.1⟩
 ·have hpj2:(s.size:Int)≤(p:Int):=by omega
  have hno:HeadAt l p 0 0 (-1):=fun M N t hM hN h=>by
   rw [List.drop_eq_nil_of_le (by have:=HSZ.out;omega)] at h
   unfold headL at h
   cases h
  have HNO:=Hh hno
  clear hno
  go_enter Tryz.func132,Tryz.ntmps132
  go_wp2
  go_ret3
  exact ⟨0,0,-1,rfl,Br _ _,by decide,by decide,.inl rfl,by rw [←HL.out];exact HNO.out⟩
def TxPost (s:ByteArray) (p:Nat) (w:World) (e:Ending) (w':World):Prop:=∃ (o:ByteArray) (q:Int),e=.returned (.tuple #[.string o,.int .i64 q])∧Below w.heap.size w w'∧o.size≤s.size∧(q=-1∨((p:Int)<q∧q≤(s.size:Int)∧(p:Int)+1+(o.size:Int)≤q))∧(q<0→o.size=0)∧∀z t,z.size≤65536→s.data.toList.drop p=cText z++t→o=z∧0≤q∧t=s.data.toList.drop q.toNat
theorem rtext7_any (s:ByteArray) (p:Nat) (w:World) (hp:p≤s.size) (hs:s.size≤1000000):Calls Tryz.prog 134 #[.string s,.int .i64 (p:Int)] w (TxPost s p w):=by
 have RR:=Hh (rread_any s p w hp hs)
 have hsi:(s.size:Int)≤1000000:=by omega
 have hsz:s.data.toList.length=s.size:=by rw [Array.length_toList];rfl
 have HSZ:=Hh hsz
 clear hsz
 go_enter Tryz.func134,Tryz.ntmps134
 go_upto_region 2 with ((with_reducible refine (RR.out).mono ?_);rintro e w1 ⟨m,n,q,rfl,hb,hm8,hn,hq,hat⟩)
 have HB:=Hh hb
 have HAT:Hid (∀z t,z.size≤65536→s.data.toList.drop p=cText z++t→m=3∧n=z.size∧0≤q∧z.data.toList++t=s.data.toList.drop q.toNat):=Hh fun z t hz h=>hat 3 z.size (z.data.toList++t) (by decide) (by omega) (by rw [h];unfold cText;rw [List.append_assoc])
 clear hb hat RR
 by_cases hq0:q<0
 ·have hno:∀z t,z.size≤65536→s.data.toList.drop p=cText z++t→(⟨#[]⟩:ByteArray)=z∧(0:Int)≤-1∧t=s.data.toList.drop (-1:Int).toNat:=fun z t hz h=>by
   have:=HAT.out z t hz h;omega
  have HNO:=Hh hno
  clear hno
  go_wp2
  go_ret2
  exact ⟨⟨#[]⟩,-1,rfl,HB.out,Nat.zero_le _,.inl rfl,fun _=>rfl,HNO.out⟩
 ·obtain ⟨qn,hqn⟩:∃qn:Nat,q=(qn:Int):=⟨q.toNat,by omega⟩
  subst hqn
  have hqs:qn≤s.size:=by omega
  have hpq:p<qn:=by omega
  by_cases hm3:m=3
  ·have tm:((m:Int) == 3)=true:=by rw [hm3];rfl
   have tmb:((m:Int) != 3)=false:=by rw [bne,tm];rfl
   obtain ⟨dn,hdn⟩:∃dn,dn=s.size - qn:=⟨_,rfl⟩
   have ed:(s.size:Int) - (qn:Int)=(dn:Int):=by omega
   have hwd:IntKind.u64.wrap (dn:Int)=(dn:Int):=by rw [IntKind.wrap_u64];omega
   clear hm3
   by_cases hnd:dn<n
   ·have tnd:(dn:Int)<(n:Int):=by omega
    have hno:∀z t,z.size≤65536→s.data.toList.drop p=cText z++t→(⟨#[]⟩:ByteArray)=z∧(0:Int)≤-1∧t=s.data.toList.drop (-1:Int).toNat:=fun z t hz h=>by
     obtain ⟨-,h2,-,h4⟩:=HAT.out z t hz h
     have h5:=congrArg List.length h4
     rw [Lg,List.length_drop,HSZ.out,Int.toNat_natCast,Array.length_toList] at h5
     have h6:z.data.size=z.size:=rfl
     omega
    have HNO:=Hh hno
    clear hno
    go_wp2
    go_ret2
    exact ⟨⟨#[]⟩,-1,rfl,HB.out,Nat.zero_le _,.inl rfl,fun _=>rfl,HNO.out⟩
   ·have tnd:¬ (dn:Int)<(n:Int):=by omega
    obtain ⟨rn,hrn⟩:∃rn,rn=qn+n:=⟨_,rfl⟩
    have er:(qn:Int)+(n:Int)=(rn:Int):=by omega
    have hrs:rn≤s.size:=by omega
    have hqr:qn≤rn:=by omega
    have hwn:IntKind.i64.wrap (n:Int)=(n:Int):=IntWalk.i64_in _ (by omega)
    have hwr:IntKind.i64.wrap (rn:Int)=(rn:Int):=IntWalk.i64_in _ (by omega)
    have hrsi:(rn:Int)≤(s.size:Int):=by omega
    have hqri:(qn:Int)≤(rn:Int):=by omega
    have hqz:(0:Int)≤(qn:Int):=by omega
    obtain ⟨o,ho⟩:∃o,s.extract qn rn=o:=⟨_,rfl⟩
    have hosz:o.size=n:=by rw [←ho,ByteArray.size_extract];omega
    have hol:o.data.toList=(s.data.toList.drop qn).take n:=by
     rw [←ho,ByteArray.data_extract,Array.toList_extract]
     simp only [List.extract]
     rw [show rn - qn=n by omega]
    have hyes:∀z t,z.size≤65536→s.data.toList.drop p=cText z++t→o=z∧(0:Int)≤(rn:Int)∧t=s.data.toList.drop (rn:Int).toNat:=fun z t hz h=>by
     obtain ⟨-,h2,-,h4⟩:=HAT.out z t hz h
     rw [Int.toNat_natCast] at h4
     have hzl:z.data.toList.length=n:=by rw [h2,Array.length_toList];rfl
     refine ⟨data_inj ?_,by omega,?_⟩
     ·rw [hol,←h4,List.take_left' hzl]
     ·rw [Int.toNat_natCast,hrn,←List.drop_drop,←h4,List.drop_left' hzl]
    have HY:=Hh (Ai hosz hyes)
    have HL:=Hh (Ai hrn hdn)
    clear hosz hol hyes hrn hdn
    go_wp2
    go_ret2
    exact ⟨o,(rn:Int),rfl,HB.out,by rw [HY.out.1];have:=HL.out;omega,.inr ⟨by have:=HL.out;omega,by omega,by rw [HY.out.1];have:=HL.out;omega⟩,fun h=>by omega,HY.out.2⟩
  ·have tm:((m:Int) == 3)=false:=by rw [beq_eq_false_iff_ne];omega
   have tmb:((m:Int) != 3)=true:=by rw [bne,tm];rfl
   have hno:∀z t,z.size≤65536→s.data.toList.drop p=cText z++t→(⟨#[]⟩:ByteArray)=z∧(0:Int)≤-1∧t=s.data.toList.drop (-1:Int).toNat:=fun z t hz h=>by
    have:=HAT.out z t hz h;omega
   have HNO:=Hh hno
   clear hno hm3
   go_wp2
   go_ret2
   exact ⟨⟨#[]⟩,-1,rfl,HB.out,Nat.zero_le _,.inl rfl,fun _=>rfl,HNO.out⟩
end Go.Proofs.YtcklddldejejcaaGreatDoor
namespace Go.Proofs.YtcklddldejejcaaGreatDoor
def CIs (d:Nat) (l:List UInt8) (p:Nat) (y:ND) (t:List UInt8):Prop:=validN d y=true∧numsB d y=true∧l.drop p=writeC d y++t
theorem cmaj_cases {d:Nat} {y:ND} (h:validN (d+1) y=true) (hn:numsB (d+1) y=true) :
 (cMaj y=7∧20≤cCnt y∧cCnt y≤22)∨(cMaj y=0∧cCnt y≤9223372036854775807∧y=.mk 2 false (cCnt y:Int) ⟨#[]⟩ [] [])∨(cMaj y=1∧cCnt y≤9223372036854775807∧y=.mk 2 false (-1 - (cCnt y:Int)) ⟨#[]⟩ [] [])∨(cMaj y=3∧y.text.size≤65536∧y=.mk 3 false 0 y.text [] []∧writeC (d+1) y=cText y.text)∨(cMaj y=4∧cCnt y=y.items.length∧y.items.length≤256∧y=.mk 4 false 0 ⟨#[]⟩ [] y.items)∨(cMaj y=5∧cCnt y=y.items.length∧y.items.length≤256∧y=.mk 5 false 0 ⟨#[]⟩ y.names y.items∧y.names.length=y.items.length):=by
 obtain ⟨-,hl,htx,-⟩:=validN_parts h
 obtain ⟨hw,-⟩:=numsB_parts hn
 have h6:=textOk_le htx
 have hk:=kinds h
 unfold wideI at hw
 rw [Bool.and_eq_true,decide_eq_true_eq,decide_eq_true_eq] at hw
 obtain ⟨k,b,n,tt,ns,its⟩:=y
 unfold nd0 at hk
 simp only [ND.mk.injEq,ND.kind,ND.bool,ND.num,ND.text,ND.names,ND.items] at *
 rcases hk with ⟨rfl,rfl,rfl,rfl,rfl,rfl⟩ | ⟨rfl,-,rfl,rfl,rfl,rfl⟩ | ⟨rfl,rfl,-,rfl,rfl,rfl⟩ | ⟨rfl,rfl,rfl,-,rfl,rfl⟩ | ⟨rfl,rfl,rfl,rfl,rfl,-⟩ | ⟨⟨rfl,rfl,rfl,rfl,-,-⟩,hlx⟩
 ·left;simp [cMaj,cCnt,ND.kind]
 ·left;cases b <;> simp [cMaj,cCnt,ND.kind,ND.bool]
 ·right
  by_cases hq:n<0
  ·right;left;simp [cMaj,cCnt,ND.kind,ND.num,hq];omega
  ·left;simp [cMaj,cCnt,ND.kind,ND.num,hq];omega
 ·right;right;right;left
  refine ⟨rfl,h6,by simp,?_⟩
  rw [writeC_succ];simp [bodyC,cMaj,cCnt,cText,ND.kind,ND.text]
 ·right;right;right;right;left;exact ⟨rfl,rfl,hl,by simp⟩
 ·right;right;right;right;right;exact ⟨rfl,rfl,hl,by simp,hlx⟩
theorem vhead {d:Nat} {l:List UInt8} {p m n:Nat} {q:Int} (hat:HeadAt l p m n q) {y:ND} {t:List UInt8} (h:CIs (d+1) l p y t):m=cMaj y∧n=cCnt y∧0≤q∧bodyC d y++t=l.drop q.toNat:=by
 obtain ⟨h1,h2,h3⟩:=h
 rw [writeC_succ,List.append_assoc] at h3
 exact hat _ _ _ (cMaj_lt y) (cCnt_lt h1 h2) h3
def restC (d:Nat) (k:Int) (ns:List ByteArray) (its:List ND):List UInt8:=if k=5 then (List.zipWith (fun s y=>cText s++writeC d y) ns its).flatten else its.flatMap (writeC d)
def LIs (d:Nat) (k:Int) (n:Nat) (l:List UInt8) (p0:Nat) (ns:List ByteArray) (X:List ND) (p:Nat):Prop:=∀y t,CIs (d+1) l p0 y t→y=.mk k false 0 ⟨#[]⟩ y.names y.items∧y.items.length=n∧∃its nms,y.items=X++its∧y.names=ns++nms∧(k=5→nms.length=its.length)∧(k ≠ 5→nms=[])∧(∀z,z ∈ its→validN d z=true∧numsB d z=true)∧(∀z,z ∈ nms→z.size≤65536)∧l.drop p=restC d k nms its++t
def VIs (d:Nat) (k:Int) (n:Nat) (l:List UInt8) (p0:Nat) (ns:List ByteArray) (X:List ND) (p:Nat):Prop:=∀y t,CIs (d+1) l p0 y t→y=.mk k false 0 ⟨#[]⟩ y.names y.items∧y.items.length=n∧∃i its nms,y.items=X++i::its∧y.names=ns++nms∧(k=5→nms.length=its.length)∧(k ≠ 5→nms=[])∧(∀z,z ∈ i::its→validN d z=true∧numsB d z=true)∧(∀z,z ∈ nms→z.size≤65536)∧l.drop p=writeC d i++(restC d k nms its++t)
theorem LIs.start {d:Nat} {l:List UInt8} {p m n q:Nat} (hat:HeadAt l p m n (q:Int)) (hm:m=4∨m=5):LIs d (m:Int) n l p [] [] q:=by
 intro y t h
 obtain ⟨h1,h2,-,h4⟩:=vhead hat h
 obtain ⟨hi,-,-,hns⟩:=validN_parts h.1
 obtain ⟨-,hni⟩:=numsB_parts h.2.1
 rw [Int.toNat_natCast] at h4
 rcases cmaj_cases h.1 h.2.1 with ⟨c1,-⟩ | ⟨c1,-⟩ | ⟨c1,-⟩ | ⟨c1,-⟩ | ⟨c1,c2,c3,c4⟩ | ⟨c1,c2,c3,c4,c5⟩
 ·omega
 ·omega
 ·omega
 ·omega
 ·have hm4:m=4:=by omega
  subst hm4
  have hnn:y.names=[]:=by rw [c4];rfl
  refine ⟨by rw [hnn];exact c4,by omega,y.items,[],rfl,hnn,fun h=>by omega,fun _=>rfl,fun z hz=>⟨hi z hz,hni z hz⟩,fun z hz=>by simp at hz,?_⟩
  rw [←h4]
  have hk:y.kind=4:=by rw [c4];rfl
  unfold bodyC restC
  rw [hk];rfl
 ·have hm5:m=5:=by omega
  subst hm5
  refine ⟨c4,by omega,y.items,y.names,rfl,rfl,fun _=>c5,fun h=>absurd rfl h,fun z hz=>⟨hi z hz,hni z hz⟩,fun z hz=>textOk_le (hns z hz),?_⟩
  rw [←h4]
  have hk:y.kind=5:=by rw [c4];rfl
  unfold bodyC restC
  rw [hk];rfl
theorem LIs.more {d:Nat} {k:Int} {n:Nat} {l:List UInt8} {p0 p:Nat} {ns:List ByteArray} {X:List ND} (h:LIs d k n l p0 ns X p) (hk:k ≠ 5) (hX:X.length<n):VIs d k n l p0 ns X p:=by
 intro y t hy
 obtain ⟨h1,h2,its,nms,h3,h4,h5,h6,h7,h8,h9⟩:=h y t hy
 cases its with
 | nil=>rw [h3,List.append_nil] at h2;omega
 | cons i its=>
  refine ⟨h1,h2,i,its,nms,h3,h4,fun h=>absurd h hk,h6,h7,h8,?_⟩
  rw [h9]
  unfold restC
  rw [if_neg hk,if_neg hk,List.flatMap_cons,List.append_assoc]
theorem LIs.text {d:Nat} {k:Int} {n:Nat} {l:List UInt8} {p0 p:Nat} {ns:List ByteArray} {X:List ND} (h:LIs d k n l p0 ns X p) (hk:k=5) (hX:X.length<n) {o:ByteArray} {q:Int} (ht:∀z t,z.size≤65536→l.drop p=cText z++t→o=z∧0≤q∧t=l.drop q.toNat):(q<0→∀y t,¬CIs (d+1) l p0 y t)∧VIs d k n l p0 (ns++[o]) X q.toNat:=by
 have main:∀y t,CIs (d+1) l p0 y t→0≤q∧(y=.mk k false 0 ⟨#[]⟩ y.names y.items∧y.items.length=n∧∃i its nms,y.items=X++i::its∧y.names=ns++[o]++nms∧(k=5→nms.length=its.length)∧(k ≠ 5→nms=[])∧(∀z,z ∈ i::its→validN d z=true∧numsB d z=true)∧(∀z,z ∈ nms→z.size≤65536)∧l.drop q.toNat=writeC d i++(restC d k nms its++t)):=by
  intro y t hy
  obtain ⟨h1,h2,its,nms,h3,h4,h5,h6,h7,h8,h9⟩:=h y t hy
  cases its with
  | nil=>rw [h3,List.append_nil] at h2;omega
  | cons i its=>
   cases nms with
   | nil=>have:=h5 hk;simp at this
   | cons m nms=>
    unfold restC at h9
    rw [if_pos hk,List.zipWith_cons_cons,List.flatten_cons,List.append_assoc,List.append_assoc] at h9
    obtain ⟨e1,e2,e3⟩:=ht m _ (h8 m (by simp)) h9
    subst e1
    refine ⟨e2,h1,h2,i,its,nms,h3,by rw [h4];simp,fun h=>by have:=h5 h;simpa using this,fun h=>absurd hk h,h7,fun z hz=>h8 z (by simp [hz]),?_⟩
    rw [←e3]
    unfold restC
    rw [if_pos hk]
 exact ⟨fun hq y t hy=>by have:=(main y t hy).1;omega,fun y t hy=>(main y t hy).2⟩
theorem VIs.item {d:Nat} {k:Int} {n:Nat} {l:List UInt8} {p0 p:Nat} {ns:List ByteArray} {X:List ND} (h:VIs d k n l p0 ns X p) {x:ND} {q:Int} (ht:∀z t,CIs d l p z t→x=z∧0≤q∧t=l.drop q.toNat):(q<0→∀y t,¬CIs (d+1) l p0 y t)∧LIs d k n l p0 ns (X++[x]) q.toNat:=by
 have main:∀y t,CIs (d+1) l p0 y t→0≤q∧(y=.mk k false 0 ⟨#[]⟩ y.names y.items∧y.items.length=n∧∃its nms,y.items=X++[x]++its∧y.names=ns++nms∧(k=5→nms.length=its.length)∧(k ≠ 5→nms=[])∧(∀z,z ∈ its→validN d z=true∧numsB d z=true)∧(∀z,z ∈ nms→z.size≤65536)∧l.drop q.toNat=restC d k nms its++t):=by
  intro y t hy
  obtain ⟨h1,h2,i,its,nms,h3,h4,h5,h6,h7,h8,h9⟩:=h y t hy
  have hi:=h7 i (by simp)
  obtain ⟨e1,e2,e3⟩:=ht i _ ⟨hi.1,hi.2,h9⟩
  subst e1
  exact ⟨e2,h1,h2,its,nms,by rw [h3];simp,h4,h5,h6,fun z hz=>h7 z (by simp [hz]),h8,e3.symm⟩
 exact ⟨fun hq y t hy=>by have:=(main y t hy).1;omega,fun y t hy=>(main y t hy).2⟩
theorem LIs.done {d:Nat} {k:Int} {n:Nat} {l:List UInt8} {p0 p:Nat} {ns:List ByteArray} {X:List ND} (h:LIs d k n l p0 ns X p) (hX:X.length=n):∀y t,CIs (d+1) l p0 y t→(.mk k false 0 ⟨#[]⟩ ns X)=y∧t=l.drop p:=by
 intro y t hy
 obtain ⟨h1,h2,its,nms,h3,h4,h5,h6,h7,h8,h9⟩:=h y t hy
 have hn:its=[]:=by
  rw [h3,Lg] at h2
  exact List.length_eq_zero_iff.1 (by omega)
 subst hn
 have hm:nms=[]:=by
  by_cases hk:k=5
  ·exact List.length_eq_zero_iff.1 (h5 hk)
  ·exact h6 hk
 subst hm
 rw [List.append_nil] at h3 h4
 refine ⟨by rw [h1,h3,h4],?_⟩
 rw [h9]
 unfold restC
 split <;> rfl
theorem leaf_first {d:Nat} {l:List UInt8} {p:Nat} {c:UInt8} (hc:l[p]?=some c) {x:ND} (hv:validN (d+1) x=true) (hn:numsB (d+1) x=true) (hw:writeC (d+1) x=[c]):∀y t,CIs (d+1) l p y t→x=y∧t=l.drop (p+1):=by
 intro y t ⟨h1,h2,h3⟩
 rw [cdrop_at hc] at h3
 have h4:writeC (d+1) x++l.drop (p+1)=writeC (d+1) y++t:=by rw [hw,←h3];rfl
 obtain ⟨e1,e2⟩:=writeC_app_inj (d+1) x y _ _ hv hn h1 h2 h4
 exact ⟨e1,e2.symm⟩
theorem not_seven {d:Nat} {l:List UInt8} {p:Nat} {c:UInt8} (hc:l[p]?=some c) (h4:c ≠ 244) (h5:c ≠ 245) (h6:c ≠ 246) {y:ND} {t:List UInt8} (h:CIs (d+1) l p y t):cMaj y ≠ 7:=by
 intro h7
 obtain ⟨h1,h2,h3⟩:=h
 rw [writeC_succ,List.append_assoc] at h3
 obtain ⟨e1,e2,-⟩:=head_first hc (cMaj_lt y) h3
 rcases cmaj_cases h1 h2 with ⟨c1,c2,c3⟩ | ⟨c1,-⟩ | ⟨c1,-⟩ | ⟨c1,-⟩ | ⟨c1,-⟩ | ⟨c1,-⟩
 ·have hv:headV (cCnt y)=cCnt y:=by unfold headV;rw [if_pos (by omega)]
  have:c.toNat=244∨c.toNat=245∨c.toNat=246:=by omega
  rcases this with h | h | h
  ·exact h4 (UInt8.toNat_inj.1 h)
  ·exact h5 (UInt8.toNat_inj.1 h)
  ·exact h6 (UInt8.toNat_inj.1 h)
 all_goals omega
end Go.Proofs.YtcklddldejejcaaGreatDoor