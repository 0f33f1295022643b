/- The document's Encode of the third serialisation; what a node's bytes cost. -/
import Derived.Test.YtcklddldejejcaaGreatDoorCrv
import Derived.Test.YtcklddldejejcaaGreatDoorMpe
set_option linter.unusedVariables false
set_option linter.unusedSimpArgs false
set_option maxHeartbeats 3200000
set_option maxRecDepth 100000
namespace Go.Proofs.YtcklddldejejcaaGreatDoor
open Go Go.ChangeShapes Go.WideShapes Go.ChangeAt Go.RowKit
def mpS (x:ND):ByteArray:=if validN 8 x then (if 65536<(writeP 8 x).length then ⟨#[]⟩ else bC (writeP 8 x)) else ⟨#[]⟩
def mpE (x:ND):Int:=if validN 8 x then (if 65536<(writeP 8 x).length then 3 else 0) else 1
theorem mpse_bad {x:ND} (h:validN 8 x=false):mpS x=⟨#[]⟩∧mpE x=1:=by unfold mpS mpE;rw [h];exact ⟨rfl,rfl⟩
theorem mpse_long {x:ND} (h:validN 8 x=true) (hl:65536<(writeP 8 x).length):mpS x=⟨#[]⟩∧mpE x=3:=by unfold mpS mpE;rw [h,if_pos rfl,if_pos rfl,if_pos hl,if_pos hl];exact ⟨rfl,rfl⟩
theorem mpse_good {x:ND} (h:validN 8 x=true) (hl:¬65536<(writeP 8 x).length):mpS x=bC (writeP 8 x)∧mpE x=0:=by unfold mpS mpE;rw [h,if_pos rfl,if_pos rfl,if_neg hl,if_neg hl];exact ⟨rfl,rfl⟩
theorem mpse_size (x:ND):(mpS x).size≤65536:=by
 unfold mpS
 split
 ·split
  ·exact Nat.zero_le _
  ·rw [bC_size];omega
 ·exact Nat.zero_le _
def MEncPost (x:ND) (w:World) (e:Ending) (w':World):Prop:=e=.returned (.tuple #[.string (mpS x),.int .i64 (mpE x)])∧Below w.heap.size w w'
theorem pText_cost (s:ByteArray):(pText s).length≤6 * s.size+8:=by
 have h2:s.data.toList.length=s.size:=by rw [Array.length_toList];rfl
 unfold pText headP
 rw [Lg,List.length_cons,bigL_length,h2]
 unfold txtH
 (repeat' split) <;> dsimp only <;> omega
theorem zipP_sum {W:ND→List UInt8} {c:ND→Nat}:∀ (ns:List ByteArray) (its:List ND),(∀y,y ∈ its→(W y).length≤c y)→(List.zipWith (fun s y=>pText s++W y) ns its).flatten.length≤(ns.map fun s=>6 * s.size+8).sum+(its.map fun y=>c y+1).sum
 | [],_,_=>by simp
 | _::_,[],_=>by simp
 | s::ss,y::ys,h=>by
  have ih:=zipP_sum ss ys (fun z hz=>h z (by simp [hz]))
  have h1:=pText_cost s
  have h3:=h y (by simp)
  rw [List.zipWith_cons_cons,List.flatten_cons,Lg,Lg,List.map_cons,List.sum_cons,List.map_cons,List.sum_cons]
  omega
theorem pHd_le (x:ND):(pHd x).2≤8:=by
 unfold pHd numH txtH lstH mapH
 (repeat' split) <;> dsimp only <;> omega
theorem writeP_cost:∀ (d:Nat) (x:ND),validN d x=true→(writeP d x).length≤costN d x
 | 0,_,h=>by cases h
 | d+1,x,h=>by
  obtain ⟨hi,hl,htx,hns⟩:=validN_parts h
  have ih:∀y,y ∈ x.items→(writeP d y).length≤costN d y:=fun y hy=>writeP_cost d y (hi y hy)
  have hts:x.text.data.toList.length=x.text.size:=by rw [Array.length_toList];rfl
  have h9:=headM_cost (v:=pVal x) (pHd_le x)
  have h1:=flatC_sum x.items ih
  have h2:=zipP_sum (W:=writeP d) x.names x.items ih
  rw [costN_succ,writeP_succ,Lg]
  unfold bodyM
  split
  ·omega
  ·split
   ·omega
   ·split
    ·omega
    ·simp;omega
def FxPost (s:ByteArray) (p k:Nat) (w:World) (e:Ending) (w':World):Prop:=∃ (n:Nat) (q:Int),e=.returned (.tuple #[.int .u64 (n:Int),.int .i64 q])∧Below w.heap.size w w'∧((s.size<p+k∧n=0∧q=-1)∨(p+k≤s.size∧n=bigV ((s.data.toList.drop p).take k)∧q=(p:Int)+(k:Int)))
theorem rfixed_any (s:ByteArray) (p k:Nat) (w:World) (hp:p≤s.size) (hs:s.size≤1000000) (hk:k≤8):Calls Tryz.prog 136 #[.string s,.int .i64 (p:Int),.int .i64 (k:Int)] w (FxPost s p k w):=by
 obtain ⟨l,hl⟩:∃l,l=s.data.toList:=⟨_,rfl⟩
 have hsz:l.length=s.size:=by rw [hl,Array.length_toList];rfl
 have HSZ:=Hh hsz
 have HL:=Hh hl
 have HGET:Hid (∀ (p:Nat) (h:p<s.size),l[p]?=some (s[p]'h)):=Hh fun p h=>by rw [hl,List.getElem?_eq_getElem (by rw [Array.length_toList];exact h)];rfl
 have hsi:(s.size:Int)≤1000000:=by omega
 have hpz:(0:Int)≤(p:Int):=by omega
 have hkz:(0:Int)≤(k:Int):=by omega
 have hk8:(k:Int)≤8:=by omega
 have hpi:(p:Int)≤(s.size:Int):=by omega
 have hwd:IntKind.i64.wrap ((s.size:Int) - (p:Int))=(s.size:Int) - (p:Int):=IntWalk.i64_in _ (by omega)
 clear hsz
 by_cases hlen:(s.size:Int) - (p:Int)<(k:Int)
 ·go_enter Tryz.func136,Tryz.ntmps136
  go_wp2
  go_ret2
  exact ⟨0,-1,rfl,Br _ _,.inl ⟨by omega,rfl,rfl⟩⟩
 ·have hlk:p+k≤s.size:=by omega
  go_enter Tryz.func136,Tryz.ntmps136
  clear hlen
  go_upto_region 99 with fail
  go_loopw [8,17] (fun vn vi wr=>∃ (j:Nat) (N:Int),vi=.int .i64 j∧j≤k∧vn=.int .u64 N∧N=(bigV ((l.drop p).take j):Int)∧wr=w) (fun _ vi _=>k - (intOf vi).toNat)
  case atStart=>exact ⟨0,0,rfl,Nat.zero_le _,rfl,by simp [bigV],rfl⟩
  case round=>
   obtain ⟨j,N,rfl,hj,rfl,hN,rfl⟩:=hrel
   by_cases hjk:j<k
   ·have hjk':(j:Int)<(k:Int):=by omega
    have hj0:(0:Int)≤(j:Int):=by omega
    obtain ⟨pj,hpj'⟩:∃pj,pj=p+j:=⟨_,rfl⟩
    have hpjn:pj<s.size:=by omega
    have hpji:(pj:Int)<(s.size:Int):=by omega
    have hpjz:(0:Int)≤(pj:Int):=by omega
    have e2:(p:Int)+(j:Int)=(pj:Int):=by omega
    have gj:=HGET.out pj hpjn
    obtain ⟨cj,hcj⟩:∃cj,cj=s[pj]'hpjn:=⟨_,rfl⟩
    rw [←hcj] at gj
    have hcj':=hcj.symm
    have hb1:=bigV_lt ((l.drop p).take j)
    have hlj:((l.drop p).take j).length=j:=by rw [List.length_take,List.length_drop];have:=HSZ.out;omega
    rw [hlj] at hb1
    have hb2:(256:Nat) ^ j≤256 ^ 7:=Nat.pow_le_pow_right (by decide) (by omega)
    have h7:(256:Nat) ^ 7=72057594037927936:=by decide
    have hw0:IntKind.u64.wrap (cj.toNat:Int)=(cj.toNat:Int):=by rw [IntKind.wrap_u64];have:=cj.toNat_lt;omega
    have hw1:IntKind.u64.wrap (N * 256)=N * 256:=by rw [IntKind.wrap_u64];omega
    have hw2:bits BinOp.or IntKind.u64 (N * 256) (cj.toNat:Int)=(bigV ((l.drop p).take (j+1)):Int):=by
     rw [hN,or_low _ _ (by omega) cj.toNat_lt,List.take_add_one,List.getElem?_drop,←hpj',gj]
     show _=((bigV (_++[cj]):Nat):Int)
     rw [bigV_snoc]
    obtain ⟨N2,hN2⟩:∃N2:Int,N2=(bigV ((l.drop p).take (j+1)):Int):=⟨_,rfl⟩
    rw [←hN2] at hw2
    have HN2:=Hh hN2
    have HP:=Hh hpj'
    clear hb1 hlj hb2 h7 hN hN2 gj hcj hpj'
    go_wp2
    go_roundw
    case rel=>exact ⟨j+1,N2,by go_num,by omega,rfl,HN2.out,trivial⟩
    case measure=>simp [intOf] <;> omega
   ·have hjk':¬ (j:Int)<(k:Int):=by omega
    have hje:j=k:=by omega
    rw [hje] at hN
    have HN:=Hh hN
    have hw4:IntKind.i64.wrap ((p:Int)+(k:Int))=(p:Int)+(k:Int):=IntWalk.i64_in _ (by omega)
    clear hN hje
    go_wp2
    go_ret2
    exact ⟨bigV ((l.drop p).take k),(p:Int)+(k:Int),by rw [←HN.out];rfl,Br _ _,.inr ⟨hlk,by rw [HL.out],rfl⟩⟩
def LnOk (v:Nat):Prop:=(128≤v∧v<192)∨v=217∨v=218∨v=219∨v=220∨v=222
instance (v:Nat):Decidable (LnOk v):=by unfold LnOk;infer_instance
theorem bigV_take (l:List UInt8) (k:Nat) (hk:k≤4):bigV (l.take k)<4294967296:=by
 have h1:=bigV_lt (l.take k)
 have h2:(l.take k).length≤4:=by rw [List.length_take];omega
 have h3:(256:Nat) ^ (l.take k).length≤256 ^ 4:=Nat.pow_le_pow_right (by decide) h2
 have h4:(256:Nat) ^ 4=4294967296:=by decide
 omega
theorem bigV_i64 (l:List UInt8) (k:Nat) (hk:k≤4):wrap64 (bigV (l.take k):Int)=(bigV (l.take k):Int):=by have:=bigV_take l k hk;unfold wrap64;omega
def LnPost (s:ByteArray) (p v:Nat) (w:World) (e:Ending) (w':World):Prop:=∃k n q:Int,e=.returned (.tuple #[.int .i64 k,.int .i64 n,.int .i64 q])∧Below w.heap.size w w'∧((LnOk v∧p+1+pWid v≤s.size∧k=pCls v∧n=pDec v (bigV ((s.data.toList.drop (p+1)).take (pWid v)))∧q=((p+1+pWid v:Nat):Int))∨(q=-1∧(LnOk v→s.size<p+1+pWid v)))
theorem rlength_any (s:ByteArray) (p v:Nat) (w:World) (hp:p<s.size) (hs:s.size≤1000000) (hv:(s[p]'hp).toNat=v):Calls Tryz.prog 137 #[.string s,.int .i64 (p:Int)] w (LnPost s p v w):=by
 have HV256:Hid (v<256):=Hh (by rw [←hv];exact UInt8.toNat_lt _)
 have hpj:(p:Int)<(s.size:Int):=by omega
 have hpz:(0:Int)≤(p:Int):=by omega
 have hsi:(s.size:Int)≤1000000:=by omega
 have hpw:IntKind.i64.wrap ((p:Int)+1)=(p:Int)+1:=IntWalk.i64_in _ (by omega)
 have hvw:IntKind.i64.wrap (v:Int)=(v:Int):=IntWalk.i64_in _ (by have:=HV256.out;omega)
 by_cases a3:160≤v∧v<192
 ·have n1:(160:Int)≤(v:Int):=by omega
  have n2:(v:Int)<192:=by omega
  have hwz:IntKind.i64.wrap ((v:Int) - 160)=(v:Int) - 160:=IntWalk.i64_in _ (by omega)
  obtain ⟨-,-,d3,d4,d5⟩:=dec_0 v HV256.out
  obtain ⟨e1,e2,e3⟩:=d3 (by omega) (by omega)
  have HD:=Hh (Ai e1 (Ai e2 e3))
  clear d3 d4 d5 e1 e2 e3
  go_enter Tryz.func137,Tryz.ntmps137
  go_wp2
  go_ret3
  exact ⟨_,_,_,rfl,Br _ _,.inl ⟨by unfold LnOk;omega,by rw [HD.out.2.1];omega,HD.out.1.symm,by rw [HD.out.2.1];exact HD.out.2.2.symm,by rw [HD.out.2.1];omega⟩⟩
 by_cases a4:144≤v∧v<160
 ·have n1:(144:Int)≤(v:Int):=by omega
  have n2:(v:Int)<160:=by omega
  have n3:¬ (160:Int)≤(v:Int):=by omega
  have hwz:IntKind.i64.wrap ((v:Int) - 144)=(v:Int) - 144:=IntWalk.i64_in _ (by omega)
  obtain ⟨-,-,d3,d4,d5⟩:=dec_0 v HV256.out
  obtain ⟨e1,e2,e3⟩:=d4 (by omega) (by omega)
  have HD:=Hh (Ai e1 (Ai e2 e3))
  clear d3 d4 d5 e1 e2 e3
  go_enter Tryz.func137,Tryz.ntmps137
  go_wp2
  go_ret3
  exact ⟨_,_,_,rfl,Br _ _,.inl ⟨by unfold LnOk;omega,by rw [HD.out.2.1];omega,HD.out.1.symm,by rw [HD.out.2.1];exact HD.out.2.2.symm,by rw [HD.out.2.1];omega⟩⟩
 by_cases a5:128≤v∧v<144
 ·have n1:(128:Int)≤(v:Int):=by omega
  have n2:(v:Int)<144:=by omega
  have n3:¬ (160:Int)≤(v:Int):=by omega
  have n4:¬ (144:Int)≤(v:Int):=by omega
  have hwz:IntKind.i64.wrap ((v:Int) - 128)=(v:Int) - 128:=IntWalk.i64_in _ (by omega)
  obtain ⟨-,-,d3,d4,d5⟩:=dec_0 v HV256.out
  obtain ⟨e1,e2,e3⟩:=d5 (by omega) (by omega)
  have HD:=Hh (Ai e1 (Ai e2 e3))
  clear d3 d4 d5 e1 e2 e3
  go_enter Tryz.func137,Tryz.ntmps137
  go_wp2
  go_ret3
  exact ⟨_,_,_,rfl,Br _ _,.inl ⟨by unfold LnOk;omega,by rw [HD.out.2.1];omega,HD.out.1.symm,by rw [HD.out.2.1];exact HD.out.2.2.symm,by rw [HD.out.2.1];omega⟩⟩
 by_cases q217:v=217
 ·go_enter Tryz.func137,Tryz.ntmps137
  clear a3 a4 a5
  have RF:=Hh (fun wx=>rfixed_any s (p+1) 1 wx (by omega) hs (by decide))
  rw [show ((p+1:Nat):Int)=(p:Int)+1 from rfl,show ((1:Nat):Int)=1 from rfl] at RF
  subst q217
  go_wp2_with (go_at_call 136;(with_reducible refine (RF.out _).mono ?_);rintro e w2 ⟨n,q,rfl,hb2,hq⟩)
  go_ret3
  rcases hq with ⟨h1,rfl,rfl⟩ | ⟨h1,rfl,rfl⟩
  ·exact ⟨_,_,_,rfl,hb2,.inr ⟨rfl,fun _=>h1⟩⟩
  ·exact ⟨_,_,_,rfl,hb2,.inl ⟨by decide,h1,rfl,bigV_i64 (s.data.toList.drop (p+1)) 1 (by decide),rfl⟩⟩
 by_cases q218:v=218
 ·go_enter Tryz.func137,Tryz.ntmps137
  clear a3 a4 a5
  have RF:=Hh (fun wx=>rfixed_any s (p+1) 2 wx (by omega) hs (by decide))
  rw [show ((p+1:Nat):Int)=(p:Int)+1 from rfl,show ((2:Nat):Int)=2 from rfl] at RF
  subst q218
  go_wp2_with (go_at_call 136;(with_reducible refine (RF.out _).mono ?_);rintro e w2 ⟨n,q,rfl,hb2,hq⟩)
  go_ret3
  rcases hq with ⟨h1,rfl,rfl⟩ | ⟨h1,rfl,rfl⟩
  ·exact ⟨_,_,_,rfl,hb2,.inr ⟨rfl,fun _=>h1⟩⟩
  ·exact ⟨_,_,_,rfl,hb2,.inl ⟨by decide,h1,rfl,bigV_i64 (s.data.toList.drop (p+1)) 2 (by decide),rfl⟩⟩
 by_cases q219:v=219
 ·go_enter Tryz.func137,Tryz.ntmps137
  clear a3 a4 a5
  have RF:=Hh (fun wx=>rfixed_any s (p+1) 4 wx (by omega) hs (by decide))
  rw [show ((p+1:Nat):Int)=(p:Int)+1 from rfl,show ((4:Nat):Int)=4 from rfl] at RF
  subst q219
  go_wp2_with (go_at_call 136;(with_reducible refine (RF.out _).mono ?_);rintro e w2 ⟨n,q,rfl,hb2,hq⟩)
  go_ret3
  rcases hq with ⟨h1,rfl,rfl⟩ | ⟨h1,rfl,rfl⟩
  ·exact ⟨_,_,_,rfl,hb2,.inr ⟨rfl,fun _=>h1⟩⟩
  ·exact ⟨_,_,_,rfl,hb2,.inl ⟨by decide,h1,rfl,bigV_i64 (s.data.toList.drop (p+1)) 4 (by decide),rfl⟩⟩
 by_cases q220:v=220
 ·go_enter Tryz.func137,Tryz.ntmps137
  clear a3 a4 a5
  have RF:=Hh (fun wx=>rfixed_any s (p+1) 2 wx (by omega) hs (by decide))
  rw [show ((p+1:Nat):Int)=(p:Int)+1 from rfl,show ((2:Nat):Int)=2 from rfl] at RF
  subst q220
  go_wp2_with (go_at_call 136;(with_reducible refine (RF.out _).mono ?_);rintro e w2 ⟨n,q,rfl,hb2,hq⟩)
  go_ret3
  rcases hq with ⟨h1,rfl,rfl⟩ | ⟨h1,rfl,rfl⟩
  ·exact ⟨_,_,_,rfl,hb2,.inr ⟨rfl,fun _=>h1⟩⟩
  ·exact ⟨_,_,_,rfl,hb2,.inl ⟨by decide,h1,rfl,bigV_i64 (s.data.toList.drop (p+1)) 2 (by decide),rfl⟩⟩
 by_cases q222:v=222
 ·go_enter Tryz.func137,Tryz.ntmps137
  clear a3 a4 a5
  have RF:=Hh (fun wx=>rfixed_any s (p+1) 2 wx (by omega) hs (by decide))
  rw [show ((p+1:Nat):Int)=(p:Int)+1 from rfl,show ((2:Nat):Int)=2 from rfl] at RF
  subst q222
  go_wp2_with (go_at_call 136;(with_reducible refine (RF.out _).mono ?_);rintro e w2 ⟨n,q,rfl,hb2,hq⟩)
  go_ret3
  rcases hq with ⟨h1,rfl,rfl⟩ | ⟨h1,rfl,rfl⟩
  ·exact ⟨_,_,_,rfl,hb2,.inr ⟨rfl,fun _=>h1⟩⟩
  ·exact ⟨_,_,_,rfl,hb2,.inl ⟨by decide,h1,rfl,bigV_i64 (s.data.toList.drop (p+1)) 2 (by decide),rfl⟩⟩
 have NO:Hid (¬LnOk v):=Hh (by unfold LnOk;omega)
 by_cases g1:v<128
 ·have n1:¬ (160:Int)≤(v:Int):=by omega
  have n2:¬ (144:Int)≤(v:Int):=by omega
  have n3:¬ (128:Int)≤(v:Int):=by omega
  have n4:¬ (217:Int)≤(v:Int):=by omega
  have n5:((v:Int) == 220)=false:=by rw [beq_eq_false_iff_ne];omega
  have n6:((v:Int) == 222)=false:=by rw [beq_eq_false_iff_ne];omega
  go_enter Tryz.func137,Tryz.ntmps137
  go_wp2
  go_ret3
  exact ⟨_,_,_,rfl,Br _ _,.inr ⟨rfl,fun h=>absurd h NO.out⟩⟩
 have n1:(160:Int)≤(v:Int):=by omega
 have n2:¬ (v:Int)<192:=by omega
 have n3:(144:Int)≤(v:Int):=by omega
 have n4:¬ (v:Int)<160:=by omega
 have n5:(128:Int)≤(v:Int):=by omega
 have n6:¬ (v:Int)<144:=by omega
 have n7:((v:Int) == 220)=false:=by rw [beq_eq_false_iff_ne];omega
 have n8:((v:Int) == 222)=false:=by rw [beq_eq_false_iff_ne];omega
 by_cases g2:v<217
 ·have n9:¬ (217:Int)≤(v:Int):=by omega
  clear a3 a4 a5
  go_enter Tryz.func137,Tryz.ntmps137
  go_wp2
  go_ret3
  exact ⟨_,_,_,rfl,Br _ _,.inr ⟨rfl,fun h=>absurd h NO.out⟩⟩
 ·have n9:(217:Int)≤(v:Int):=by omega
  have n10:¬ (v:Int)≤219:=by omega
  clear a3 a4 a5
  go_enter Tryz.func137,Tryz.ntmps137
  go_wp2
  go_ret3
  exact ⟨_,_,_,rfl,Br _ _,.inr ⟨rfl,fun h=>absurd h NO.out⟩⟩
end Go.Proofs.YtcklddldejejcaaGreatDoor
namespace Go.Proofs.YtcklddldejejcaaGreatDoor
def MIs (d:Nat) (l:List UInt8) (p:Nat) (y:ND) (t:List UInt8):Prop:=validN d y=true∧numsB d y=true∧l.drop p=writeP d y++t
def mBig (l:List UInt8) (p v:Nat):Nat:=bigV ((l.drop (p+1)).take (pWid v))
theorem mhead {d:Nat} {l:List UInt8} {p:Nat} {c:UInt8} (hc:l[p]?=some c) {y:ND} {t:List UInt8} (h:MIs (d+1) l p y t):c.toNat=(pHd y).1∧pCls c.toNat=y.kind∧p+1+pWid c.toNat≤l.length∧pDec c.toNat (mBig l p c.toNat)=pPay y∧mBig l p c.toNat=pVal y % 256 ^ pWid c.toNat∧bodyM (writeP d) y++t=l.drop (p+1+pWid c.toNat):=by
 obtain ⟨h1,h2,h3⟩:=h
 obtain ⟨a1,a2,a3,a4⟩:=head_ok h1 h2
 rw [writeP_succ,List.append_assoc,cdrop_at hc] at h3
 unfold headP at h3
 rw [List.cons_append] at h3
 obtain ⟨h4,h5⟩:=List.cons.inj h3
 have h4:=congrArg UInt8.toNat h4
 rw [UInt8.toNat_ofNat'] at h4
 have hv:c.toNat=(pHd y).1:=by omega
 have hp:=lt_of_some hc
 have hl:=congrArg List.length h5
 rw [List.length_drop,Lg,bigL_length] at hl
 have hb:(bigL (pVal y) (pHd y).2).length=(pHd y).2:=bigL_length _ _
 have hm:mBig l p c.toNat=pVal y % 256 ^ (pHd y).2:=by
  unfold mBig
  rw [hv,a3,h5,List.take_left' hb,bigV_bigL]
 refine ⟨hv,by rw [hv,a2],by rw [hv,a3];omega,by rw [hm,hv,a4],by rw [hm,hv,a3],?_⟩
 rw [hv,a3,←List.drop_drop,h5,List.drop_left' hb]
theorem mcases {d:Nat} {y:ND} (h:validN (d+1) y=true) (hn:numsB (d+1) y=true) :
 (y.kind=0∧y=.mk 0 false 0 ⟨#[]⟩ [] [])∨(y.kind=1∧y=.mk 1 (decide (pPay y=1)) 0 ⟨#[]⟩ [] [])∨(y.kind=2∧wideI y.num=true∧pPay y=y.num∧y=.mk 2 false y.num ⟨#[]⟩ [] [])∨(y.kind=3∧y.text.size≤65536∧pPay y=y.text.size∧y=.mk 3 false 0 y.text [] [])∨(y.kind=4∧pPay y=y.items.length∧y.items.length≤256∧y=.mk 4 false 0 ⟨#[]⟩ [] y.items)∨(y.kind=5∧pPay y=y.items.length∧y.items.length≤256∧y=.mk 5 false 0 ⟨#[]⟩ y.names y.items∧y.names.length=y.items.length):=by
 obtain ⟨-,hl,htx,-⟩:=validN_parts h
 obtain ⟨hw,-⟩:=numsB_parts hn
 have h6:=textOk_le htx
 have hk:=kinds h
 obtain ⟨k,b,n,tt,ns,its⟩:=y
 unfold nd0 at hk
 simp only [ND.mk.injEq,ND.kind,ND.bool,ND.num,ND.text,ND.names,ND.items] at *
 rcases hk with ⟨rfl,rfl,rfl,rfl,rfl,rfl⟩ | ⟨rfl,-,rfl,rfl,rfl,rfl⟩ | ⟨rfl,rfl,-,rfl,rfl,rfl⟩ | ⟨rfl,rfl,rfl,-,rfl,rfl⟩ | ⟨rfl,rfl,rfl,rfl,rfl,-⟩ | ⟨⟨rfl,rfl,rfl,rfl,-,-⟩,hlx⟩
 ·left;simp
 ·right;left;cases b <;> simp [pPay,ND.kind,ND.bool]
 ·right;right;left;simp [pPay,ND.kind,ND.num,hw]
 ·right;right;right;left;simp [pPay,ND.kind,ND.text,h6]
 ·right;right;right;right;left;simp [pPay,ND.kind,ND.items,hl]
 ·right;right;right;right;right;simp [pPay,ND.kind,ND.items,hl,hlx]
def restM (d:Nat) (k:Int) (ns:List ByteArray) (its:List ND):List UInt8:=if k=5 then (List.zipWith (fun s y=>pText s++writeP d y) ns its).flatten else its.flatMap (writeP d)
def MLs (d:Nat) (k:Int) (n:Nat) (l:List UInt8) (p0:Nat) (ns:List ByteArray) (X:List ND) (p:Nat):Prop:=∀y t,MIs (d+1) l p0 y t→y=.mk k false 0 ⟨#[]⟩ y.names y.items∧y.items.length=n∧∃its nms,y.items=X++its∧y.names=ns++nms∧(k=5→nms.length=its.length)∧(k ≠ 5→nms=[])∧(∀z,z ∈ its→validN d z=true∧numsB d z=true)∧(∀z,z ∈ nms→textOk z=true)∧l.drop p=restM d k nms its++t
def MVs (d:Nat) (k:Int) (n:Nat) (l:List UInt8) (p0:Nat) (ns:List ByteArray) (X:List ND) (p:Nat):Prop:=∀y t,MIs (d+1) l p0 y t→y=.mk k false 0 ⟨#[]⟩ y.names y.items∧y.items.length=n∧∃i its nms,y.items=X++i::its∧y.names=ns++nms∧(k=5→nms.length=its.length)∧(k ≠ 5→nms=[])∧(∀z,z ∈ i::its→validN d z=true∧numsB d z=true)∧(∀z,z ∈ nms→textOk z=true)∧l.drop p=writeP d i++(restM d k nms its++t)
theorem MLs.start {d:Nat} {l:List UInt8} {p:Nat} {c:UInt8} {n:Nat} (hc:l[p]?=some c) (hk:pCls c.toNat=4∨pCls c.toNat=5) (hn:pDec c.toNat (mBig l p c.toNat)=(n:Int)):MLs d (pCls c.toNat) n l p [] [] (p+1+pWid c.toNat):=by
 intro y t h
 obtain ⟨-,h1,-,h2,-,h4⟩:=mhead hc h
 obtain ⟨hi,-,-,hns⟩:=validN_parts h.1
 obtain ⟨-,hni⟩:=numsB_parts h.2.1
 rw [h1] at hk ⊢
 rw [hn] at h2
 rcases mcases h.1 h.2.1 with ⟨c1,-⟩ | ⟨c1,-⟩ | ⟨c1,-⟩ | ⟨c1,-⟩ | ⟨c1,c2,c3,c4⟩ | ⟨c1,c2,c3,c4,c5⟩
 ·omega
 ·omega
 ·omega
 ·omega
 ·have hnn:y.names=[]:=by rw [c4];rfl
  rw [c1]
  refine ⟨by rw [hnn];exact c4,by omega,y.items,[],rfl,hnn,fun h=>by omega,fun _=>rfl,fun z hz=>⟨hi z hz,hni z hz⟩,fun z hz=>by simp at hz,?_⟩
  rw [←h4]
  unfold bodyM restM
  rw [c1];rfl
 ·rw [c1]
  refine ⟨c4,by omega,y.items,y.names,rfl,rfl,fun _=>c5,fun h=>absurd rfl h,fun z hz=>⟨hi z hz,hni z hz⟩,fun z hz=>hns z hz,?_⟩
  rw [←h4]
  unfold bodyM restM
  rw [c1];rfl
theorem MLs.more {d:Nat} {k:Int} {n:Nat} {l:List UInt8} {p0 p:Nat} {ns:List ByteArray} {X:List ND} (h:MLs d k n l p0 ns X p) (hk:k ≠ 5) (hX:X.length<n):MVs d k n l p0 ns X p:=by
 intro y t hy
 obtain ⟨h1,h2,its,nms,h3,h4,h5,h6,h7,h8,h9⟩:=h y t hy
 cases its with
 | nil=>rw [h3,List.append_nil] at h2;omega
 | cons i its=>
  refine ⟨h1,h2,i,its,nms,h3,h4,fun h=>absurd h hk,h6,h7,h8,?_⟩
  rw [h9]
  unfold restM
  rw [if_neg hk,if_neg hk,List.flatMap_cons,List.append_assoc]
theorem mname_ok {z:ByteArray} (h:textOk z=true):validN 1 (.mk 3 false 0 z [] [])=true∧numsB 1 (.mk 3 false 0 z [] [])=true∧writeP 1 (.mk 3 false 0 z [] [])=pText z:=by
 refine ⟨?_,rfl,?_⟩
 ·rw [validN_succ]
  unfold flatOk
  simp [ND.kind,ND.bool,ND.num,ND.text,ND.names,ND.items,h]
 ·rfl
theorem MLs.text {d:Nat} {k:Int} {n:Nat} {l:List UInt8} {p0 p:Nat} {ns:List ByteArray} {X:List ND} (h:MLs d k n l p0 ns X p) (hk:k=5) (hX:X.length<n) {x:ND} {q:Int} (ht:∀z t,MIs 1 l p z t→x=z∧0≤q∧t=l.drop q.toNat):(q<0∨x.kind ≠ 3→∀y t,¬MIs (d+1) l p0 y t)∧MVs d k n l p0 (ns++[x.text]) X q.toNat:=by
 have main:∀y t,MIs (d+1) l p0 y t→(0≤q∧x.kind=3)∧(y=.mk k false 0 ⟨#[]⟩ y.names y.items∧y.items.length=n∧∃i its nms,y.items=X++i::its∧y.names=ns++[x.text]++nms∧(k=5→nms.length=its.length)∧(k ≠ 5→nms=[])∧(∀z,z ∈ i::its→validN d z=true∧numsB d z=true)∧(∀z,z ∈ nms→textOk z=true)∧l.drop q.toNat=writeP d i++(restM d k nms its++t)):=by
  intro y t hy
  obtain ⟨h1,h2,its,nms,h3,h4,h5,h6,h7,h8,h9⟩:=h y t hy
  cases its with
  | nil=>rw [h3,List.append_nil] at h2;omega
  | cons i its=>
   cases nms with
   | nil=>have:=h5 hk;simp at this
   | cons m nms=>
    unfold restM at h9
    rw [if_pos hk,List.zipWith_cons_cons,List.flatten_cons,List.append_assoc,List.append_assoc] at h9
    obtain ⟨o1,o2,o3⟩:=mname_ok (h8 m (by simp))
    obtain ⟨e1,e2,e3⟩:=ht _ _ ⟨o1,o2,by rw [o3];exact h9⟩
    subst e1
    refine ⟨⟨e2,rfl⟩,h1,h2,i,its,nms,h3,by rw [h4];simp [ND.text],fun h=>by have:=h5 h;simpa using this,fun h=>absurd hk h,h7,fun z hz=>h8 z (by simp [hz]),?_⟩
    rw [←e3]
    unfold restM
    rw [if_pos hk]
 exact ⟨fun hq y t hy=>by have:=(main y t hy).1;rcases hq with hq | hq;exact absurd this.1 (by omega);exact hq this.2,fun y t hy=>(main y t hy).2⟩
theorem MVs.item {d:Nat} {k:Int} {n:Nat} {l:List UInt8} {p0 p:Nat} {ns:List ByteArray} {X:List ND} (h:MVs d k n l p0 ns X p) {x:ND} {q:Int} (ht:∀z t,MIs d l p z t→x=z∧0≤q∧t=l.drop q.toNat):(q<0→∀y t,¬MIs (d+1) l p0 y t)∧MLs d k n l p0 ns (X++[x]) q.toNat:=by
 have main:∀y t,MIs (d+1) l p0 y t→0≤q∧(y=.mk k false 0 ⟨#[]⟩ y.names y.items∧y.items.length=n∧∃its nms,y.items=X++[x]++its∧y.names=ns++nms∧(k=5→nms.length=its.length)∧(k ≠ 5→nms=[])∧(∀z,z ∈ its→validN d z=true∧numsB d z=true)∧(∀z,z ∈ nms→textOk z=true)∧l.drop q.toNat=restM d k nms its++t):=by
  intro y t hy
  obtain ⟨h1,h2,i,its,nms,h3,h4,h5,h6,h7,h8,h9⟩:=h y t hy
  have hi:=h7 i (by simp)
  obtain ⟨e1,e2,e3⟩:=ht i _ ⟨hi.1,hi.2,h9⟩
  subst e1
  exact ⟨e2,h1,h2,its,nms,by rw [h3];simp,h4,h5,h6,fun z hz=>h7 z (by simp [hz]),h8,e3.symm⟩
 exact ⟨fun hq y t hy=>by have:=(main y t hy).1;omega,fun y t hy=>(main y t hy).2⟩
theorem MLs.done {d:Nat} {k:Int} {n:Nat} {l:List UInt8} {p0 p:Nat} {ns:List ByteArray} {X:List ND} (h:MLs d k n l p0 ns X p) (hX:X.length=n):∀y t,MIs (d+1) l p0 y t→(.mk k false 0 ⟨#[]⟩ ns X)=y∧t=l.drop p:=by
 intro y t hy
 obtain ⟨h1,h2,its,nms,h3,h4,h5,h6,h7,h8,h9⟩:=h y t hy
 have hn:its=[]:=by
  rw [h3,Lg] at h2
  exact List.length_eq_zero_iff.1 (by omega)
 subst hn
 have hm:nms=[]:=by
  by_cases hk:k=5
  ·exact List.length_eq_zero_iff.1 (h5 hk)
  ·exact h6 hk
 subst hm
 rw [List.append_nil] at h3 h4
 refine ⟨by rw [h1,h3,h4],?_⟩
 rw [h9]
 unfold restM
 split <;> rfl
def sgnN (w:Nat) (n:Nat):Int:=if n<256 ^ w / 2 then (n:Int) else (n:Int) - (256 ^ w:Nat)
theorem mnum {d:Nat} {l:List UInt8} {p:Nat} {c:UInt8} (hc:l[p]?=some c) (hk:pCls c.toNat=2):∀y t,MIs (d+1) l p y t→y=.mk 2 false (pDec c.toNat (mBig l p c.toNat)) ⟨#[]⟩ [] []∧wideI (pDec c.toNat (mBig l p c.toNat))=true∧p+1+pWid c.toNat≤l.length∧t=l.drop (p+1+pWid c.toNat):=by
 intro y t h
 obtain ⟨-,h1,h2,h3,-,h4⟩:=mhead hc h
 rw [hk] at h1
 rcases mcases h.1 h.2.1 with ⟨c1,-⟩ | ⟨c1,-⟩ | ⟨c1,cw,c2,c3⟩ | ⟨c1,-⟩ | ⟨c1,-⟩ | ⟨c1,-⟩
 ·omega
 ·omega
 ·refine ⟨by rw [h3,c2];exact c3,by rw [h3,c2];exact cw,h2,?_⟩
  rw [←h4]
  unfold bodyM
  rw [c1];rfl
 ·omega
 ·omega
 ·omega
theorem msign {d:Nat} {l:List UInt8} {p:Nat} {c:UInt8} (hc:l[p]?=some c) (hk:208≤c.toNat) (hk2:c.toNat≤211):∀y t,MIs (d+1) l p y t→sgnN (pWid c.toNat) (mBig l p c.toNat)=pDec c.toNat (mBig l p c.toNat):=by
 intro y t h
 obtain ⟨h0,h1,h2,h3,h5,h4⟩:=mhead hc h
 have h6:pCls c.toNat=2:=by
  rcases (by omega:c.toNat=208∨c.toNat=209∨c.toNat=210∨c.toNat=211) with h | h | h | h <;> rw [h] <;> rfl
 rw [h6] at h1
 rw [h3]
 rcases mcases h.1 h.2.1 with ⟨c1,-⟩ | ⟨c1,-⟩ | ⟨c1,cw,c2,c3⟩ | ⟨c1,-⟩ | ⟨c1,-⟩ | ⟨c1,-⟩
 ·omega
 ·omega
 ·rw [c2]
  unfold wideI at cw
  rw [Bool.and_eq_true,decide_eq_true_eq,decide_eq_true_eq] at cw
  have e1:(pHd y).1=(numH y.num).1:=by unfold pHd;rw [c1];rfl
  have e2:pVal y=u64N y.num:=by unfold pVal;rw [c1];rfl
  rw [e1] at h0
  rw [e2] at h5
  rw [h5]
  generalize y.num=z at *
  rw [h0] at hk hk2 ⊢
  clear h h0 h1 h2 h3 h4 h5 h6 hc c1 c2 c3 e1 e2
  unfold numH at hk hk2 ⊢
  unfold sgnN u64N
  by_cases a:-32≤z∧z<128
  ·rw [if_pos a] at hk hk2
   dsimp only at hk hk2
   unfold u64N at hk hk2
   exfalso;omega
  rw [if_neg a] at hk hk2 ⊢
  by_cases b:0<z
  ·rw [if_pos b] at hk
   exfalso
   revert hk
   (repeat' split) <;> dsimp only <;> omega
  rw [if_neg b]
  by_cases q:-128≤z
  ·rw [if_pos q];simp only [show pWid 208=1 from rfl,Nat.reducePow,Nat.reduceDiv];split <;> omega
  rw [if_neg q]
  by_cases q:-32768≤z
  ·rw [if_pos q];simp only [show pWid 209=2 from rfl,Nat.reducePow,Nat.reduceDiv];split <;> omega
  rw [if_neg q]
  by_cases q:-2147483648≤z
  ·rw [if_pos q];simp only [show pWid 210=4 from rfl,Nat.reducePow,Nat.reduceDiv];split <;> omega
  rw [if_neg q]
  simp only [show pWid 211=8 from rfl,Nat.reducePow,Nat.reduceDiv];split <;> omega
 ·omega
 ·omega
 ·omega
theorem mtext {d:Nat} {l:List UInt8} {p:Nat} {c:UInt8} (hc:l[p]?=some c) (hk:pCls c.toNat=3) {n:Nat} (hn:pDec c.toNat (mBig l p c.toNat)=(n:Int)):∀y t,MIs (d+1) l p y t→y=.mk 3 false 0 y.text [] []∧y.text.size=n∧y.text.data.toList++t=l.drop (p+1+pWid c.toNat):=by
 intro y t h
 obtain ⟨-,h1,h2,h3,-,h4⟩:=mhead hc h
 rw [hk] at h1
 rw [hn] at h3
 rcases mcases h.1 h.2.1 with ⟨c1,-⟩ | ⟨c1,-⟩ | ⟨c1,-⟩ | ⟨c1,c2,c3,c4⟩ | ⟨c1,-⟩ | ⟨c1,-⟩
 ·omega
 ·omega
 ·omega
 ·refine ⟨c4,by omega,?_⟩
  rw [←h4]
  unfold bodyM
  rw [c1];rfl
 ·omega
 ·omega
theorem mleaf {d:Nat} {l:List UInt8} {p:Nat} {c:UInt8} (hc:l[p]?=some c) {x:ND} (hv:validN (d+1) x=true) (hn:numsB (d+1) x=true) (hw:writeP (d+1) x=[c]):∀y t,MIs (d+1) l p y t→x=y∧t=l.drop (p+1):=by
 intro y t ⟨h1,h2,h3⟩
 rw [cdrop_at hc] at h3
 have h4:writeP (d+1) x++l.drop (p+1)=writeP (d+1) y++t:=by rw [hw,←h3];rfl
 obtain ⟨e1,e2⟩:=writeP_app_inj (d+1) x y _ _ hv hn h1 h2 h4
 exact ⟨e1,e2.symm⟩
theorem mfirst {d:Nat} {l:List UInt8} {p:Nat} {c:UInt8} (hc:l[p]?=some c) (hn:¬ (c.toNat<128∨224≤c.toNat∨c.toNat=192∨c.toNat=194∨c.toNat=195∨(204≤c.toNat∧c.toNat≤211)∨LnOk c.toNat)):∀y t,¬MIs (d+1) l p y t:=by
 intro y t h
 obtain ⟨h0,-⟩:=mhead hc h
 obtain ⟨-,hl,-,-⟩:=validN_parts h.1
 apply hn
 unfold LnOk
 rcases mcases h.1 h.2.1 with ⟨c1,-⟩ | ⟨c1,-⟩ | ⟨c1,-⟩ | ⟨c1,c2,-⟩ | ⟨c1,-,c2,-⟩ | ⟨c1,-,c2,-⟩
 ·have e:(pHd y).1=192:=by unfold pHd;rw [c1];rfl
  omega
 ·have e:(pHd y).1=195∨(pHd y).1=194:=by unfold pHd;rw [c1];cases y.bool <;> simp
  omega
 ·have e:(pHd y).1=(numH y.num).1:=by unfold pHd;rw [c1];rfl
  rw [e] at h0
  rw [h0]
  unfold numH
  (repeat' split) <;> dsimp only <;> (try unfold u64N) <;> omega
 ·have e:(pHd y).1=(txtH y.text.size).1:=by unfold pHd;rw [c1];rfl
  rw [e] at h0
  rw [h0]
  unfold txtH
  (repeat' split) <;> dsimp only <;> omega
 ·have e:(pHd y).1=(lstH y.items.length).1:=by unfold pHd;rw [c1];rfl
  rw [e] at h0
  rw [h0]
  unfold lstH
  (repeat' split) <;> dsimp only <;> omega
 ·have e:(pHd y).1=(mapH y.items.length).1:=by unfold pHd;rw [c1];rfl
  rw [e] at h0
  rw [h0]
  unfold mapH
  (repeat' split) <;> dsimp only <;> omega
def txM (s:ByteArray):ND:=.mk 3 false 0 s [] []
def txtP (s:ByteArray):List ByteArray:=[bC (headP (txtH s.size) s.size),s]
def chkP (V:ND→List ByteArray) (x:ND):List (List ByteArray):=if x.kind=5 then List.zipWith (fun s y=>txtP s++V y) x.names x.items else x.items.map V
def pcs:Nat→ND→List ByteArray
 | 0,_=>[]
 | d+1,x=>bC (headP (pHd x) (pVal x))::x.text::(chkP (pcs d) x).flatten
theorem pcs_succ (d:Nat) (x:ND):pcs (d+1) x=bC (headP (pHd x) (pVal x))::x.text::(chkP (pcs d) x).flatten:=rfl
theorem pcs_txM (d:Nat) (s:ByteArray):pcs (d+1) (txM s)=txtP s:=rfl
def catP (l:List ByteArray):List UInt8:=l.flatMap fun s=>s.data.toList
theorem catP_app (a b:List ByteArray):catP (a++b)=catP a++catP b:=by unfold catP;rw [List.flatMap_append]
theorem catP_cons (a:ByteArray) (b:List ByteArray):catP (a::b)=a.data.toList++catP b:=by unfold catP;rw [List.flatMap_cons]
theorem catP_map {V:ND→List ByteArray} {W:ND→List UInt8}:∀ (its:List ND),(∀y,y ∈ its→catP (V y)=W y)→catP (its.map V).flatten=its.flatMap W
 | [],_=>rfl
 | y::u,h=>by
  rw [List.map_cons,List.flatten_cons,catP_app,List.flatMap_cons,h y (by simp),catP_map u fun z hz=>h z (by simp [hz])]
theorem catP_txt (s:ByteArray):catP (txtP s)=pText s:=by
 unfold txtP pText
 rw [catP_cons,catP_cons,bC_data]
 simp [catP]
theorem catP_zip {V:ND→List ByteArray} {W:ND→List UInt8}:∀ (ns:List ByteArray) (its:List ND),(∀y,y ∈ its→catP (V y)=W y)→catP (List.zipWith (fun s y=>txtP s++V y) ns its).flatten=(List.zipWith (fun s y=>pText s++W y) ns its).flatten
 | [],_,_=>rfl
 | s::t,[],_=>rfl
 | s::t,y::u,h=>by
  rw [List.zipWith_cons_cons,List.zipWith_cons_cons,List.flatten_cons,List.flatten_cons,catP_app,catP_app,catP_txt,h y (by simp),catP_zip t u fun z hz=>h z (by simp [hz])]
theorem pcs_cat:∀ (d:Nat) (x:ND),validN d x=true→catP (pcs d x)=writeP d x
 | 0,_,h=>by cases h
 | d+1,x,h=>by
  obtain ⟨hi,-,-,-⟩:=validN_parts h
  have hk:=kinds h
  have ih:∀y,y ∈ x.items→catP (pcs d y)=writeP d y:=fun y hy=>pcs_cat d y (hi y hy)
  rw [pcs_succ,writeP_succ,catP_cons,catP_cons,bC_data]
  congr 1
  unfold chkP bodyM
  obtain ⟨k,b,n,t,ns,its⟩:=x
  unfold nd0 at hk
  simp only [ND.mk.injEq,ND.kind,ND.bool,ND.num,ND.text,ND.names,ND.items] at *
  rcases hk with ⟨rfl,rfl,rfl,rfl,rfl,rfl⟩ | ⟨rfl,-,rfl,rfl,rfl,rfl⟩ | ⟨rfl,rfl,-,rfl,rfl,rfl⟩ | ⟨rfl,rfl,rfl,-,rfl,rfl⟩ | ⟨rfl,rfl,rfl,rfl,rfl,-⟩ | ⟨⟨rfl,rfl,rfl,rfl,-,-⟩,hlx⟩
  ·rfl
  ·rfl
  ·rfl
  ·simp [catP]
  ·simp only [Int.reduceEq,if_false,if_true,↓reduceIte]
   rw [catP_map its ih];rfl
  ·simp only [Int.reduceEq,if_false,if_true,↓reduceIte]
   rw [catP_zip ns its ih];rfl
theorem pcs_len {d:Nat} {x:ND} (h:validN d x=true) (q:List ByteArray) (hq:q <+: pcs d x):(catP q).length≤(writeP d x).length:=by
 rw [←pcs_cat d x h]
 obtain ⟨t,ht⟩:=hq
 rw [←ht,catP_app,Lg]
 omega
theorem chk_list {V:ND→List ByteArray} {x:ND} (hk:x.kind ≠ 5) {j:Nat} {y:ND} (hy:x.items[j]?=some y):(chkP V x)[j]?=some (V y):=by
 unfold chkP;rw [if_neg hk,List.getElem?_map,hy];rfl
theorem chk_map {V:ND→List ByteArray} {x:ND} (hk:x.kind=5) {j:Nat} {y:ND} {s:ByteArray} (hy:x.items[j]?=some y) (hs:x.names[j]?=some s):(chkP V x)[j]?=some (txtP s++V y):=by
 unfold chkP;rw [if_pos hk,List.getElem?_zipWith,hs,hy]
theorem chk_len {V:ND→List ByteArray} {x:ND} (hk:x.kind=5→x.names.length=x.items.length):(chkP V x).length=x.items.length:=by
 unfold chkP
 by_cases h:x.kind=5
 ·rw [if_pos h,List.length_zipWith,hk h];omega
 ·rw [if_neg h,List.length_map]
def uptoP (d:Nat) (x:ND) (j:Nat):List ByteArray:=bC (headP (pHd x) (pVal x))::x.text::((chkP (pcs d) x).take j).flatten
theorem upto_zero (d:Nat) (x:ND):uptoP d x 0=[bC (headP (pHd x) (pVal x)),x.text]:=rfl
theorem upto_succ {d:Nat} {x:ND} {j:Nat} {c:List ByteArray} (h:(chkP (pcs d) x)[j]?=some c):uptoP d x (j+1)=uptoP d x j++c:=by
 unfold uptoP
 rw [List.take_add_one,h]
 simp
theorem upto_all {d:Nat} {x:ND} {j:Nat} (h:(chkP (pcs d) x).length≤j):uptoP d x j=pcs (d+1) x:=by
 unfold uptoP
 rw [List.take_of_length_le h,pcs_succ]
theorem upto_pre (d:Nat) (x:ND) (j:Nat):uptoP d x j <+: pcs (d+1) x:=by
 refine ⟨((chkP (pcs d) x).drop j).flatten,?_⟩
 unfold uptoP
 rw [pcs_succ,List.cons_append,List.cons_append,←List.flatten_append,List.take_append_drop]
theorem upto_part {d:Nat} {x:ND} {j:Nat} {c q:List ByteArray} (h:(chkP (pcs d) x)[j]?=some c) (hq:q <+: c):uptoP d x j++q <+: pcs (d+1) x:=by
 refine List.IsPrefix.trans ?_ (upto_pre d x (j+1))
 rw [upto_succ h]
 exact (List.prefix_append_right_inj _).2 hq
theorem names_len {d:Nat} {x:ND} (h:validN (d+1) x=true) (hk:x.kind=5):x.names.length=x.items.length:=by
 rcases kinds h with e | e | e | e | e | ⟨-,e⟩
 ·rw [e] at hk;cases hk
 ·rw [e] at hk;cases hk
 ·rw [e] at hk;cases hk
 ·rw [e] at hk;cases hk
 ·rw [e] at hk;cases hk
 ·exact e
theorem txM_ok {d:Nat} {s:ByteArray} (h:textOk s=true):validN (d+1) (txM s)=true∧numsB (d+1) (txM s)=true:=by
 refine ⟨?_,by rw [numsB_succ];rfl⟩
 rw [validN_succ]
 unfold flatOk txM
 simp [h,ND.kind,ND.bool,ND.num,ND.text,ND.names,ND.items]
end Go.Proofs.YtcklddldejejcaaGreatDoor