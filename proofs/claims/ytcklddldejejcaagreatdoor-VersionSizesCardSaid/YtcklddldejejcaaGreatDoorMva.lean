/- The document's reader of the third serialisation: values at every depth. -/
import Derived.Test.YtcklddldejejcaaGreatDoorMit
set_option linter.unusedVariables false
set_option linter.unusedSimpArgs false
set_option maxHeartbeats 6400000
set_option maxRecDepth 100000
namespace Go.Proofs.YtcklddldejejcaaGreatDoor
open Go Go.ChangeShapes Go.WideShapes Go.ChangeAt Go.RowKit
theorem cv_on {V:ND→List UInt8→Prop} {d p:Nat} {s:ByteArray} {w wX wY:World} {x:ND} {q:Int} {a1 a2:Option Addr} {l1 c1 l2 c2:Nat}
 (hn:NodeIn (d+1) (fun b=>wX.heap.size≤b∧b<wY.heap.size) wY [.int .i64 x.kind,.bool x.bool,.int .i64 x.num,.string x.text,.slice a1 l1 c1,.slice a2 l2 c2] x) (hX:w.heap.size<wX.heap.size) (hb0:Below w.heap.size w wX) (hb:Below wX.heap.size wX wY) (hq:q=-1∨((p:Int)≤q∧q≤(s.size:Int)∧(costN (d+1) x:Int)+8≤40 * (q - (p:Int)))) (hf:lowV (d+1) x∧numsB (d+1) x=true) (hV:∀y t,V y t→x=y∧0≤q∧t=s.data.toList.drop q.toNat) :
 RcPost V d s p w (.returned (.tuple #[.agg #[.int .i64 x.kind,.bool x.bool,.int .i64 x.num,.string x.text,.slice a1 l1 c1,.slice a2 l2 c2],.int .i64 q])) (set6 wY w.heap.size (.int .i64 x.kind) (.bool x.bool) (.int .i64 x.num) (.string x.text) (.slice a1 l1 c1) (.slice a2 l2 c2)):=by
 have hgs:=grown_set6 wY w.heap.size (.int .i64 x.kind) (.bool x.bool) (.int .i64 x.num) (.string x.text) (.slice a1 l1 c1) (.slice a2 l2 c2)
 have h9:=hb0.trans (hb.mono hb0.size)
 refine ⟨[.int .i64 x.kind,.bool x.bool,.int .i64 x.num,.string x.text,.slice a1 l1 c1,.slice a2 l2 c2],x,q,rfl,?_,h9.grown hgs h9.size (fun k hk=>by cases hk;exact Lr _),hq,hf,hV⟩
 exact (hn.same fun b hb=>hgs.block b hb.2 (by intro e;have:=Option.some.inj e;omega)).mono fun b hb=>⟨by omega,Ll hb.2 hgs.size⟩
theorem mnumv {d:Nat} {l:List UInt8} {p v:Nat} (h:∃c,l[p]?=some c∧c.toNat=v) (hk:pCls v=2) {z:Int} (hz:∀y t,MIs (d+1) l p y t→pDec v (mBig l p v)=z):∀y t,MIs (d+1) l p y t→(.mk 2 false z ⟨#[]⟩ [] [])=y∧(0:Int)≤((p+1+pWid v:Nat):Int)∧t=l.drop ((p+1+pWid v:Nat):Int).toNat:=by
 obtain ⟨c,hc,rfl⟩:=h
 intro y t hy
 obtain ⟨h1,h2,h3,h4⟩:=mnum hc hk y t hy
 rw [hz y t hy] at h1
 exact ⟨h1.symm,by omega,by rw [Int.toNat_natCast];exact h4⟩
theorem mnumw {d:Nat} {l:List UInt8} {p v:Nat} (h:∃c,l[p]?=some c∧c.toNat=v) (hk:pCls v=2):∀y t,MIs (d+1) l p y t→wideI (pDec v (mBig l p v))=true∧p+1+pWid v≤l.length:=by
 obtain ⟨c,hc,rfl⟩:=h
 intro y t hy
 obtain ⟨h1,h2,h3,h4⟩:=mnum hc hk y t hy
 exact ⟨h2,h3⟩
theorem msignv {d:Nat} {l:List UInt8} {p v:Nat} (h:∃c,l[p]?=some c∧c.toNat=v) (hk:208≤v) (hk2:v≤211):∀y t,MIs (d+1) l p y t→pDec v (mBig l p v)=sgnN (pWid v) (mBig l p v):=by
 obtain ⟨c,hc,rfl⟩:=h
 exact fun y t hy=>(msign hc hk hk2 y t hy).symm
theorem sgn_1 (n:Nat) (h:n<256):wrap64 ((n:Int) * 72057594037927936) / 72057594037927936=sgnN 1 n:=by
 unfold sgnN wrap64
 rw [show (256:Nat) ^ 1=256 by decide]
 by_cases a:n<256 / 2
 ·rw [if_pos a];omega
 ·rw [if_neg a];omega
theorem sgw_1 (n:Nat) (h:n<256):-9223372036854775808≤sgnN 1 n∧sgnN 1 n≤9223372036854775807:=by
 unfold sgnN
 rw [show (256:Nat) ^ 1=256 by decide]
 by_cases a:n<256 / 2
 ·rw [if_pos a];omega
 ·rw [if_neg a];omega
theorem sgn_2 (n:Nat) (h:n<65536):wrap64 ((n:Int) * 281474976710656) / 281474976710656=sgnN 2 n:=by
 unfold sgnN wrap64
 rw [show (256:Nat) ^ 2=65536 by decide]
 by_cases a:n<65536 / 2
 ·rw [if_pos a];omega
 ·rw [if_neg a];omega
theorem sgw_2 (n:Nat) (h:n<65536):-9223372036854775808≤sgnN 2 n∧sgnN 2 n≤9223372036854775807:=by
 unfold sgnN
 rw [show (256:Nat) ^ 2=65536 by decide]
 by_cases a:n<65536 / 2
 ·rw [if_pos a];omega
 ·rw [if_neg a];omega
theorem sgn_4 (n:Nat) (h:n<4294967296):wrap64 ((n:Int) * 4294967296) / 4294967296=sgnN 4 n:=by
 unfold sgnN wrap64
 rw [show (256:Nat) ^ 4=4294967296 by decide]
 by_cases a:n<4294967296 / 2
 ·rw [if_pos a];omega
 ·rw [if_neg a];omega
theorem sgw_4 (n:Nat) (h:n<4294967296):-9223372036854775808≤sgnN 4 n∧sgnN 4 n≤9223372036854775807:=by
 unfold sgnN
 rw [show (256:Nat) ^ 4=4294967296 by decide]
 by_cases a:n<4294967296 / 2
 ·rw [if_pos a];omega
 ·rw [if_neg a];omega
theorem sgn_8 (n:Nat) (h:n<18446744073709551616):wrap64 (n:Int)=sgnN 8 n:=by
 unfold sgnN wrap64
 rw [show (256:Nat) ^ 8=18446744073709551616 by decide]
 by_cases a:n<18446744073709551616 / 2
 ·rw [if_pos a];omega
 ·rw [if_neg a];omega
theorem sgw_8 (n:Nat) (h:n<18446744073709551616):-9223372036854775808≤sgnN 8 n∧sgnN 8 n≤9223372036854775807:=by
 unfold sgnN
 rw [show (256:Nat) ^ 8=18446744073709551616 by decide]
 by_cases a:n<18446744073709551616 / 2
 ·rw [if_pos a];omega
 ·rw [if_neg a];omega
theorem lnw {v:Nat} (h:LnOk v):pWid v≤4:=by
 unfold LnOk at h
 rcases h with h | rfl | rfl | rfl | rfl | rfl
 ·unfold pWid;rw [if_neg (by omega),if_neg (by omega),if_neg (by omega),if_neg (by omega)];decide
 all_goals decide
theorem mdec_ok {v m:Nat} (h:LnOk v) (hm:m<4294967296):(pCls v=3∨pCls v=4∨pCls v=5)∧0≤pDec v m∧pDec v m<4294967296:=by
 unfold LnOk at h
 rcases h with h | rfl | rfl | rfl | rfl | rfl
 ·unfold pCls pDec
  have h1:¬v<128:=by omega
  by_cases h2:v<144
  ·simp only [h1,h2,↓reduceIte];refine ⟨?_,?_,?_⟩ <;> first | decide | omega
  by_cases h3:v<160
  ·simp only [h1,h2,h3,↓reduceIte];refine ⟨?_,?_,?_⟩ <;> first | decide | omega
  have h4:v<192:=by omega
  simp only [h1,h2,h3,h4,↓reduceIte];refine ⟨?_,?_,?_⟩ <;> first | decide | omega
 ·exact ⟨.inl rfl,show (0:Int)≤(m:Int) by omega,show (m:Int)<4294967296 by omega⟩
 ·exact ⟨.inl rfl,show (0:Int)≤(m:Int) by omega,show (m:Int)<4294967296 by omega⟩
 ·exact ⟨.inl rfl,show (0:Int)≤(m:Int) by omega,show (m:Int)<4294967296 by omega⟩
 ·exact ⟨.inr (.inl rfl),show (0:Int)≤(m:Int) by omega,show (m:Int)<4294967296 by omega⟩
 ·exact ⟨.inr (.inr rfl),show (0:Int)≤(m:Int) by omega,show (m:Int)<4294967296 by omega⟩
theorem mBig0 {l:List UInt8} {p v:Nat} (h:pWid v=0):mBig l p v=0:=by unfold mBig;rw [h];rfl
theorem mBig_lt (l:List UInt8) (p v k:Nat) (h:pWid v≤k):mBig l p v<256 ^ k:=by
 have h1:=bigV_lt ((l.drop (p+1)).take (pWid v))
 have h2:((l.drop (p+1)).take (pWid v)).length≤k:=by rw [List.length_take];omega
 exact Ll h1 (Nat.pow_le_pow_right (by decide) h2)
theorem rmvalue_zero (s:ByteArray) (p:Nat) (w:World) (hw0:0<w.heap.size):Calls Tryz.prog 85 #[.string s,.int .i64 (p:Int),.int .i64 0] w (RcPost (MIs 0 s.data.toList p) 0 s p w):=by
 have b0:=(Br w.heap.size w).alloc (o:=.cells #[.int .i64 0,.bool false,.int .i64 0,.string ⟨#[]⟩,.slice none 0 0,.slice none 0 0] 28) (Lr _)
 have k0:=Hn w (.cells #[.int .i64 0,.bool false,.int .i64 0,.string ⟨#[]⟩,.slice none 0 0,.slice none 0 0] 28)
 have B0:=Hh b0
 have K0:=Hh k0
 clear b0 k0
 go_enter Tryz.func85,Tryz.ntmps85
 go_upto_region 1 with fail
 generalize w.alloc (.cells #[.int .i64 0,.bool false,.int .i64 0,.string ⟨#[]⟩,.slice none 0 0,.slice none 0 0] 28)=w0 at B0 K0 ⊢
 have VAC:Hid (∀y t,¬MIs 0 s.data.toList p y t):=Hh (fun y t h=>by cases h.1)
 have f1:=free_six K0.out
 have c1:=six_of K0.out
 go_wp2
 refine ret_node (v:=.int .i64 (-1)) K0.out Tryz.results85 rfl rfl rfl ?_
 exact cleaf_res 0 false 0 ⟨#[]⟩ (-1) B0.out (.inl rfl) (by decide) (by decide) (fun y t hV=>absurd hV (VAC.out y t))
theorem rmvalue_step (d:Nat) (hd20:d≤20) (s:ByteArray) (hs:s.size≤1000000) (p:Nat) (hps:p≤s.size) (R1:RmAt 1 s (p+1)) (RV:RmAt d s 0) (w:World) (hw0:0<w.heap.size):Calls Tryz.prog 85 #[.string s,.int .i64 (p:Int),.int .i64 ((d:Int)+1)] w (RcPost (MIs (d+1) s.data.toList p) (d+1) s p w):=by
 have h1d:¬ (d:Int)+1<1:=by omega
 have HSZ:Hid (s.data.toList.length=s.size):=Hh (by rw [Array.length_toList];rfl)
 have hsi:(s.size:Int)≤1000000:=by omega
 have hpi:(p:Int)≤(s.size:Int):=by omega
 have hpz:(0:Int)≤(p:Int):=by omega
 have hpd:decide ((p:Int)<0)=false:=decide_eq_false (by omega)
 have IT:=Hh (fun (q1:Nat) (h1:p<q1) (h2:q1≤s.size) (K:Int) (hK:K=4∨K=5) (n:Nat) (hn:n≤256) (hl:MLs d K n s.data.toList p [] [] q1) (wx:World) (h0:0<wx.heap.size)=>ritems_step d hd20 s hs p q1 h1 h2 R1 RV K hK n hn hl wx h0)
 clear R1 RV
 have b0:=(Br w.heap.size w).alloc (o:=.cells #[.int .i64 0,.bool false,.int .i64 0,.string ⟨#[]⟩,.slice none 0 0,.slice none 0 0] 28) (Lr _)
 have k0:=Hn w (.cells #[.int .i64 0,.bool false,.int .i64 0,.string ⟨#[]⟩,.slice none 0 0,.slice none 0 0] 28)
 have wl:w.heap.size<(w.alloc (.cells #[.int .i64 0,.bool false,.int .i64 0,.string ⟨#[]⟩,.slice none 0 0,.slice none 0 0] 28)).heap.size:=by simp
 go_enter Tryz.func85,Tryz.ntmps85
 go_upto_region 1 with fail
 generalize w.alloc (.cells #[.int .i64 0,.bool false,.int .i64 0,.string ⟨#[]⟩,.slice none 0 0,.slice none 0 0] 28)=w0 at b0 k0 wl ⊢
 have B0:=Hh b0
 have K0:=Hh k0
 have WL:=Hh wl
 clear b0 k0 wl
 by_cases hpn:¬p<s.size
 ·have hpj2:(s.size:Int)≤(p:Int):=by omega
  have VAC:Hid (∀y t,¬MIs (d+1) s.data.toList p y t):=Hh (fun y t h=>by
   have h3:=h.2.2
   rw [List.drop_eq_nil_of_le (by have:=HSZ.out;omega),writeP_succ] at h3
   unfold headP at h3
   cases h3)
  have f1:=free_six K0.out
  have c1:=six_of K0.out
  go_wp2
  refine ret_node (v:=.int .i64 (-1)) K0.out Tryz.results85 rfl rfl rfl ?_
  exact cleaf_res 0 false 0 ⟨#[]⟩ (-1) B0.out (.inl rfl) (by decide) (by decide) (fun y t hV=>absurd hV (VAC.out y t))
 have hpn:p<s.size:=Classical.not_not.1 hpn
 have hpj:(p:Int)<(s.size:Int):=by omega
 have hpj2:¬ (s.size:Int)≤(p:Int):=by omega
 have hpw:IntKind.i64.wrap ((p:Int)+1)=(p:Int)+1:=IntWalk.i64_in _ (by omega)
 have HGET:Hid (s.data.toList[p]?=some (s[p]'hpn)):=Hh (by rw [List.getElem?_eq_getElem (by rw [Array.length_toList];exact hpn)];rfl)
 obtain ⟨v,hv⟩:∃v,(s[p]'hpn).toNat=v:=⟨_,rfl⟩
 have HG:Hid (∃c,s.data.toList[p]?=some c∧c.toNat=v):=Hh ⟨_,HGET.out,hv⟩
 have HV256:Hid (v<256):=Hh (by rw [←hv];exact UInt8.toNat_lt _)
 have hvw:IntKind.i64.wrap (v:Int)=(v:Int):=IntWalk.i64_in _ (by have:=HV256.out;omega)
 by_cases n192:v=192
 ·have LF:Hid (∀y t,MIs (d+1) s.data.toList p y t→(.mk 0 false 0 ⟨#[]⟩ [] [])=y∧t=s.data.toList.drop (p+1)):=Hh (by
   obtain ⟨c,hc,hcv⟩:=HG.out
   exact mleaf hc rfl rfl (by rw [UInt8.toNat_inj.1 (hcv.trans (n192.trans (show 192=(192:UInt8).toNat from rfl)))];rfl))
  subst n192
  have f1:=free_six K0.out
  have c1:=six_of K0.out
  go_wp2
  refine ret_node (v:=.int .i64 ((p:Int)+1)) K0.out Tryz.results85 rfl rfl rfl ?_
  exact cleaf_res 0 false 0 ⟨#[]⟩ ((p:Int)+1) B0.out (.inr ⟨by omega,by omega,by show 32+6 * ((0:Nat):Int)≤_;omega⟩) (by decide) (by decide) (fun y t h=>by obtain ⟨h1,h2⟩:=LF.out y t h;exact ⟨h1,by omega,by rw [h2,show ((p:Int)+1).toNat=p+1 by omega]⟩)
 by_cases n194:v=194
 ·have LF:Hid (∀y t,MIs (d+1) s.data.toList p y t→(.mk 1 false 0 ⟨#[]⟩ [] [])=y∧t=s.data.toList.drop (p+1)):=Hh (by
   obtain ⟨c,hc,hcv⟩:=HG.out
   exact mleaf hc rfl rfl (by rw [UInt8.toNat_inj.1 (hcv.trans (n194.trans (show 194=(194:UInt8).toNat from rfl)))];rfl))
  subst n194
  have f1:=free_six K0.out
  have c1:=six_of K0.out
  go_wp2
  refine ret_node (v:=.int .i64 ((p:Int)+1)) K0.out Tryz.results85 rfl rfl rfl ?_
  exact cleaf_res 1 false 0 ⟨#[]⟩ ((p:Int)+1) B0.out (.inr ⟨by omega,by omega,by show 32+6 * ((0:Nat):Int)≤_;omega⟩) (by decide) (by decide) (fun y t h=>by obtain ⟨h1,h2⟩:=LF.out y t h;exact ⟨h1,by omega,by rw [h2,show ((p:Int)+1).toNat=p+1 by omega]⟩)
 by_cases n195:v=195
 ·have LF:Hid (∀y t,MIs (d+1) s.data.toList p y t→(.mk 1 true 0 ⟨#[]⟩ [] [])=y∧t=s.data.toList.drop (p+1)):=Hh (by
   obtain ⟨c,hc,hcv⟩:=HG.out
   exact mleaf hc rfl rfl (by rw [UInt8.toNat_inj.1 (hcv.trans (n195.trans (show 195=(195:UInt8).toNat from rfl)))];rfl))
  subst n195
  have f1:=free_six K0.out
  have c1:=six_of K0.out
  go_wp2
  refine ret_node (v:=.int .i64 ((p:Int)+1)) K0.out Tryz.results85 rfl rfl rfl ?_
  exact cleaf_res 1 true 0 ⟨#[]⟩ ((p:Int)+1) B0.out (.inr ⟨by omega,by omega,by show 32+6 * ((0:Nat):Int)≤_;omega⟩) (by decide) (by decide) (fun y t h=>by obtain ⟨h1,h2⟩:=LF.out y t h;exact ⟨h1,by omega,by rw [h2,show ((p:Int)+1).toNat=p+1 by omega]⟩)
 have b192:((v:Int) == 192)=false:=by rw [beq_eq_false_iff_ne];omega
 have b194:((v:Int) == 194)=false:=by rw [beq_eq_false_iff_ne];omega
 have b195:((v:Int) == 195)=false:=by rw [beq_eq_false_iff_ne];omega
 by_cases s128:v<128
 ·obtain ⟨d1,d2,-⟩:=dec_0 v HV256.out
  obtain ⟨e1,e2,e3⟩:=d1 (by omega)
  have VV:Hid (∀y t,MIs (d+1) s.data.toList p y t→(.mk 2 false (v:Int) ⟨#[]⟩ [] [])=y∧0≤((p:Int)+1)∧t=s.data.toList.drop ((p:Int)+1).toNat):=Hh fun y t h=>by
   have:=mnumv HG.out e1 (z:=(v:Int)) (fun y t _=>by rw [mBig0 e2];exact e3) y t h
   rw [e2] at this
   exact this
  have HWQ:Hid (wideI (v:Int)=true):=Hh (by unfold wideI;rw [Bool.and_eq_true,decide_eq_true_eq,decide_eq_true_eq];have:=HV256.out;omega)
  clear d1 d2 e1 e2 e3
  have m128:(v:Int)<128:=by omega
  have NN:=Hh (fun wx=>cnumber_any (v:Int) wx)
  go_wp2_with (go_at_call 133;(with_reducible refine (NN.out _).mono ?_);rintro e6 w6 ⟨rfl,hb6⟩;(have hr9:=(hb6.block _ (lt_of_block K0.out)).trans K0.out);(have f9:=free_six hr9);(have c9:=six_of hr9);(have HR9:=Hh hr9);(have HB9:=Hh (B0.out.trans (hb6.mono B0.out.size)));clear hr9 hb6)
  refine ret_node (v:=.int .i64 ((p:Int)+1)) HR9.out Tryz.results85 rfl rfl rfl ?_
  exact cleaf_res 2 false (v:Int) ⟨#[]⟩ ((p:Int)+1) HB9.out (.inr ⟨by omega,by omega,by show 32+6 * ((0:Nat):Int)≤_;omega⟩) (by decide) HWQ.out VV.out
 have m128:¬ (v:Int)<128:=by omega
 by_cases s224:224≤v
 ·obtain ⟨d1,d2,-⟩:=dec_0 v HV256.out
  obtain ⟨e1,e2,e3⟩:=d2 (by omega)
  have VV:Hid (∀y t,MIs (d+1) s.data.toList p y t→(.mk 2 false ((v:Int) - 256) ⟨#[]⟩ [] [])=y∧0≤((p:Int)+1)∧t=s.data.toList.drop ((p:Int)+1).toNat):=Hh fun y t h=>by
   have:=mnumv HG.out e1 (z:=((v:Int) - 256)) (fun y t _=>by rw [mBig0 e2];exact e3) y t h
   rw [e2] at this
   exact this
  have HWQ:Hid (wideI ((v:Int) - 256)=true):=Hh (by unfold wideI;rw [Bool.and_eq_true,decide_eq_true_eq,decide_eq_true_eq];have:=HV256.out;omega)
  clear d1 d2 e1 e2 e3
  have m224:(224:Int)≤(v:Int):=by omega
  have hwz:IntKind.i64.wrap ((v:Int) - 256)=(v:Int) - 256:=IntWalk.i64_in _ (by have:=HV256.out;omega)
  have NN:=Hh (fun wx=>cnumber_any ((v:Int) - 256) wx)
  go_wp2_with (go_at_call 133;(with_reducible refine (NN.out _).mono ?_);rintro e6 w6 ⟨rfl,hb6⟩;(have hr9:=(hb6.block _ (lt_of_block K0.out)).trans K0.out);(have f9:=free_six hr9);(have c9:=six_of hr9);(have HR9:=Hh hr9);(have HB9:=Hh (B0.out.trans (hb6.mono B0.out.size)));clear hr9 hb6)
  refine ret_node (v:=.int .i64 ((p:Int)+1)) HR9.out Tryz.results85 rfl rfl rfl ?_
  exact cleaf_res 2 false ((v:Int) - 256) ⟨#[]⟩ ((p:Int)+1) HB9.out (.inr ⟨by omega,by omega,by show 32+6 * ((0:Nat):Int)≤_;omega⟩) (by decide) HWQ.out VV.out
 have m224:¬ (224:Int)≤(v:Int):=by omega
 by_cases n204:v=204
 ·subst n204
  have RF:=Hh (fun wx=>rfixed_any s (p+1) 1 wx (by omega) hs (by decide))
  rw [show ((p+1:Nat):Int)=(p:Int)+1 from rfl,show ((1:Nat):Int)=1 from rfl] at RF
  have MB:Hid (mBig s.data.toList p 204<256 ^ 1):=Hh (mBig_lt _ _ _ _ (by decide))
  go_upto_region 14 with ((with_reducible refine (RF.out _).mono ?_);rintro e w2 ⟨n,q,rfl,hb2,hq⟩)
  have HR2:=Hh ((hb2.block _ (lt_of_block K0.out)).trans K0.out)
  have HB2:=Hh (B0.out.trans (hb2.mono B0.out.size))
  have hnb:n<256 ^ 1:=by
   rcases hq with ⟨-,h,-⟩ | ⟨-,h,-⟩
   ·rw [h];decide
   ·rw [h];exact MB.out
  have hnb':n<256:=hnb
  have HQ:=Hh hq
  have VF:Hid (∀y t,MIs (d+1) s.data.toList p y t→q=((p+1+1:Nat):Int)∧mBig s.data.toList p 204=n):=Hh fun y t h=>by
   obtain ⟨h1,h2⟩:=mnumw HG.out rfl y t h
   rw [HSZ.out,show pWid 204=1 from rfl] at h2
   rcases HQ.out with ⟨h3,-,-⟩ | ⟨h3,h4,h5⟩
   ·omega
   ·exact ⟨by omega,h4.symm⟩
  have hqq:q=-1∨q=(p:Int)+1+1∧p+1+1≤s.size:=by
   rcases hq with ⟨h,-,h2⟩ | ⟨h,-,h2⟩
   ·exact .inl h2
   ·exact .inr ⟨by omega,h⟩
  clear hb2 hq RF hnb
  have hbig:¬9223372036854775807<n:=by omega
  have hbi:¬ (9223372036854775807:Int)<(n:Int):=by omega
  have hwn:IntKind.i64.wrap (n:Int)=(n:Int):=IntWalk.i64_in _ (by omega)
  have HWQ:Hid (wideI (n:Int)=true):=Hh (by unfold wideI;rw [Bool.and_eq_true,decide_eq_true_eq,decide_eq_true_eq];omega)
  have VV:Hid (∀y t,MIs (d+1) s.data.toList p y t→(.mk 2 false (n:Int) ⟨#[]⟩ [] [])=y∧0≤q∧t=s.data.toList.drop q.toNat):=Hh fun y t h=>by
   have h1:=mnumv HG.out rfl (z:=(n:Int)) (fun y t h=>by rw [(VF.out y t h).2];rfl) y t h
   rw [(VF.out y t h).1]
   exact h1
  have HQQ:Hid (q=-1∨((p:Int)≤q∧q≤(s.size:Int)∧32+6 * ((0:Nat):Int)≤40 * (q - (p:Int)))):=Hh (by omega)
  clear hqq
  have NN:=Hh (fun wx=>cnumber_any (n:Int) wx)
  go_wp2_with (go_at_call 133;(with_reducible refine (NN.out _).mono ?_);rintro e6 w6 ⟨rfl,hb6⟩;(have hr9:=(hb6.block _ (lt_of_block HR2.out)).trans HR2.out);(have f9:=free_six hr9);(have c9:=six_of hr9);(have HR9:=Hh hr9);(have HB9:=Hh (HB2.out.trans (hb6.mono HB2.out.size)));clear hr9 hb6)
  refine ret_node (v:=.int .i64 q) HR9.out Tryz.results85 rfl rfl rfl ?_
  exact cleaf_res 2 false (n:Int) ⟨#[]⟩ q HB9.out HQQ.out (by decide) HWQ.out VV.out
 by_cases n205:v=205
 ·subst n205
  have RF:=Hh (fun wx=>rfixed_any s (p+1) 2 wx (by omega) hs (by decide))
  rw [show ((p+1:Nat):Int)=(p:Int)+1 from rfl,show ((2:Nat):Int)=2 from rfl] at RF
  have MB:Hid (mBig s.data.toList p 205<256 ^ 2):=Hh (mBig_lt _ _ _ _ (by decide))
  go_upto_region 14 with ((with_reducible refine (RF.out _).mono ?_);rintro e w2 ⟨n,q,rfl,hb2,hq⟩)
  have HR2:=Hh ((hb2.block _ (lt_of_block K0.out)).trans K0.out)
  have HB2:=Hh (B0.out.trans (hb2.mono B0.out.size))
  have hnb:n<256 ^ 2:=by
   rcases hq with ⟨-,h,-⟩ | ⟨-,h,-⟩
   ·rw [h];decide
   ·rw [h];exact MB.out
  have hnb':n<65536:=hnb
  have HQ:=Hh hq
  have VF:Hid (∀y t,MIs (d+1) s.data.toList p y t→q=((p+1+2:Nat):Int)∧mBig s.data.toList p 205=n):=Hh fun y t h=>by
   obtain ⟨h1,h2⟩:=mnumw HG.out rfl y t h
   rw [HSZ.out,show pWid 205=2 from rfl] at h2
   rcases HQ.out with ⟨h3,-,-⟩ | ⟨h3,h4,h5⟩
   ·omega
   ·exact ⟨by omega,h4.symm⟩
  have hqq:q=-1∨q=(p:Int)+1+2∧p+1+2≤s.size:=by
   rcases hq with ⟨h,-,h2⟩ | ⟨h,-,h2⟩
   ·exact .inl h2
   ·exact .inr ⟨by omega,h⟩
  clear hb2 hq RF hnb
  have hbig:¬9223372036854775807<n:=by omega
  have hbi:¬ (9223372036854775807:Int)<(n:Int):=by omega
  have hwn:IntKind.i64.wrap (n:Int)=(n:Int):=IntWalk.i64_in _ (by omega)
  have HWQ:Hid (wideI (n:Int)=true):=Hh (by unfold wideI;rw [Bool.and_eq_true,decide_eq_true_eq,decide_eq_true_eq];omega)
  have VV:Hid (∀y t,MIs (d+1) s.data.toList p y t→(.mk 2 false (n:Int) ⟨#[]⟩ [] [])=y∧0≤q∧t=s.data.toList.drop q.toNat):=Hh fun y t h=>by
   have h1:=mnumv HG.out rfl (z:=(n:Int)) (fun y t h=>by rw [(VF.out y t h).2];rfl) y t h
   rw [(VF.out y t h).1]
   exact h1
  have HQQ:Hid (q=-1∨((p:Int)≤q∧q≤(s.size:Int)∧32+6 * ((0:Nat):Int)≤40 * (q - (p:Int)))):=Hh (by omega)
  clear hqq
  have NN:=Hh (fun wx=>cnumber_any (n:Int) wx)
  go_wp2_with (go_at_call 133;(with_reducible refine (NN.out _).mono ?_);rintro e6 w6 ⟨rfl,hb6⟩;(have hr9:=(hb6.block _ (lt_of_block HR2.out)).trans HR2.out);(have f9:=free_six hr9);(have c9:=six_of hr9);(have HR9:=Hh hr9);(have HB9:=Hh (HB2.out.trans (hb6.mono HB2.out.size)));clear hr9 hb6)
  refine ret_node (v:=.int .i64 q) HR9.out Tryz.results85 rfl rfl rfl ?_
  exact cleaf_res 2 false (n:Int) ⟨#[]⟩ q HB9.out HQQ.out (by decide) HWQ.out VV.out
 by_cases n206:v=206
 ·subst n206
  have RF:=Hh (fun wx=>rfixed_any s (p+1) 4 wx (by omega) hs (by decide))
  rw [show ((p+1:Nat):Int)=(p:Int)+1 from rfl,show ((4:Nat):Int)=4 from rfl] at RF
  have MB:Hid (mBig s.data.toList p 206<256 ^ 4):=Hh (mBig_lt _ _ _ _ (by decide))
  go_upto_region 14 with ((with_reducible refine (RF.out _).mono ?_);rintro e w2 ⟨n,q,rfl,hb2,hq⟩)
  have HR2:=Hh ((hb2.block _ (lt_of_block K0.out)).trans K0.out)
  have HB2:=Hh (B0.out.trans (hb2.mono B0.out.size))
  have hnb:n<256 ^ 4:=by
   rcases hq with ⟨-,h,-⟩ | ⟨-,h,-⟩
   ·rw [h];decide
   ·rw [h];exact MB.out
  have hnb':n<4294967296:=hnb
  have HQ:=Hh hq
  have VF:Hid (∀y t,MIs (d+1) s.data.toList p y t→q=((p+1+4:Nat):Int)∧mBig s.data.toList p 206=n):=Hh fun y t h=>by
   obtain ⟨h1,h2⟩:=mnumw HG.out rfl y t h
   rw [HSZ.out,show pWid 206=4 from rfl] at h2
   rcases HQ.out with ⟨h3,-,-⟩ | ⟨h3,h4,h5⟩
   ·omega
   ·exact ⟨by omega,h4.symm⟩
  have hqq:q=-1∨q=(p:Int)+1+4∧p+1+4≤s.size:=by
   rcases hq with ⟨h,-,h2⟩ | ⟨h,-,h2⟩
   ·exact .inl h2
   ·exact .inr ⟨by omega,h⟩
  clear hb2 hq RF hnb
  have hbig:¬9223372036854775807<n:=by omega
  have hbi:¬ (9223372036854775807:Int)<(n:Int):=by omega
  have hwn:IntKind.i64.wrap (n:Int)=(n:Int):=IntWalk.i64_in _ (by omega)
  have HWQ:Hid (wideI (n:Int)=true):=Hh (by unfold wideI;rw [Bool.and_eq_true,decide_eq_true_eq,decide_eq_true_eq];omega)
  have VV:Hid (∀y t,MIs (d+1) s.data.toList p y t→(.mk 2 false (n:Int) ⟨#[]⟩ [] [])=y∧0≤q∧t=s.data.toList.drop q.toNat):=Hh fun y t h=>by
   have h1:=mnumv HG.out rfl (z:=(n:Int)) (fun y t h=>by rw [(VF.out y t h).2];rfl) y t h
   rw [(VF.out y t h).1]
   exact h1
  have HQQ:Hid (q=-1∨((p:Int)≤q∧q≤(s.size:Int)∧32+6 * ((0:Nat):Int)≤40 * (q - (p:Int)))):=Hh (by omega)
  clear hqq
  have NN:=Hh (fun wx=>cnumber_any (n:Int) wx)
  go_wp2_with (go_at_call 133;(with_reducible refine (NN.out _).mono ?_);rintro e6 w6 ⟨rfl,hb6⟩;(have hr9:=(hb6.block _ (lt_of_block HR2.out)).trans HR2.out);(have f9:=free_six hr9);(have c9:=six_of hr9);(have HR9:=Hh hr9);(have HB9:=Hh (HB2.out.trans (hb6.mono HB2.out.size)));clear hr9 hb6)
  refine ret_node (v:=.int .i64 q) HR9.out Tryz.results85 rfl rfl rfl ?_
  exact cleaf_res 2 false (n:Int) ⟨#[]⟩ q HB9.out HQQ.out (by decide) HWQ.out VV.out
 by_cases n207:v=207
 ·subst n207
  have RF:=Hh (fun wx=>rfixed_any s (p+1) 8 wx (by omega) hs (by decide))
  rw [show ((p+1:Nat):Int)=(p:Int)+1 from rfl,show ((8:Nat):Int)=8 from rfl] at RF
  have MB:Hid (mBig s.data.toList p 207<256 ^ 8):=Hh (mBig_lt _ _ _ _ (by decide))
  go_upto_region 14 with ((with_reducible refine (RF.out _).mono ?_);rintro e w2 ⟨n,q,rfl,hb2,hq⟩)
  have HR2:=Hh ((hb2.block _ (lt_of_block K0.out)).trans K0.out)
  have HB2:=Hh (B0.out.trans (hb2.mono B0.out.size))
  have hnb:n<256 ^ 8:=by
   rcases hq with ⟨-,h,-⟩ | ⟨-,h,-⟩
   ·rw [h];decide
   ·rw [h];exact MB.out
  have hnb':n<18446744073709551616:=hnb
  have HQ:=Hh hq
  have VF:Hid (∀y t,MIs (d+1) s.data.toList p y t→q=((p+1+8:Nat):Int)∧mBig s.data.toList p 207=n):=Hh fun y t h=>by
   obtain ⟨h1,h2⟩:=mnumw HG.out rfl y t h
   rw [HSZ.out,show pWid 207=8 from rfl] at h2
   rcases HQ.out with ⟨h3,-,-⟩ | ⟨h3,h4,h5⟩
   ·omega
   ·exact ⟨by omega,h4.symm⟩
  have hqq:q=-1∨q=(p:Int)+1+8∧p+1+8≤s.size:=by
   rcases hq with ⟨h,-,h2⟩ | ⟨h,-,h2⟩
   ·exact .inl h2
   ·exact .inr ⟨by omega,h⟩
  clear hb2 hq RF hnb
  by_cases hbig:9223372036854775807<n
  ·have hbi:(9223372036854775807:Int)<(n:Int):=by omega
   have VAC:Hid (∀y t,¬MIs (d+1) s.data.toList p y t):=Hh (fun y t h=>by
    have h1:=(mnumw HG.out rfl y t h).1
    rw [(VF.out y t h).2] at h1
    unfold wideI at h1
    rw [Bool.and_eq_true,decide_eq_true_eq,decide_eq_true_eq,show pDec 207 n=(n:Int) from rfl] at h1
    omega)
   have f1:=free_six HR2.out
   have c1:=six_of HR2.out
   go_wp2
   refine ret_node (v:=.int .i64 (-1)) HR2.out Tryz.results85 rfl rfl rfl ?_
   exact cleaf_res 0 false 0 ⟨#[]⟩ (-1) HB2.out (.inl rfl) (by decide) (by decide) (fun y t hV=>absurd hV (VAC.out y t))
  have hbi:¬ (9223372036854775807:Int)<(n:Int):=by omega
  have hwn:IntKind.i64.wrap (n:Int)=(n:Int):=IntWalk.i64_in _ (by omega)
  have HWQ:Hid (wideI (n:Int)=true):=Hh (by unfold wideI;rw [Bool.and_eq_true,decide_eq_true_eq,decide_eq_true_eq];omega)
  have VV:Hid (∀y t,MIs (d+1) s.data.toList p y t→(.mk 2 false (n:Int) ⟨#[]⟩ [] [])=y∧0≤q∧t=s.data.toList.drop q.toNat):=Hh fun y t h=>by
   have h1:=mnumv HG.out rfl (z:=(n:Int)) (fun y t h=>by rw [(VF.out y t h).2];rfl) y t h
   rw [(VF.out y t h).1]
   exact h1
  have HQQ:Hid (q=-1∨((p:Int)≤q∧q≤(s.size:Int)∧32+6 * ((0:Nat):Int)≤40 * (q - (p:Int)))):=Hh (by omega)
  clear hqq
  have NN:=Hh (fun wx=>cnumber_any (n:Int) wx)
  go_wp2_with (go_at_call 133;(with_reducible refine (NN.out _).mono ?_);rintro e6 w6 ⟨rfl,hb6⟩;(have hr9:=(hb6.block _ (lt_of_block HR2.out)).trans HR2.out);(have f9:=free_six hr9);(have c9:=six_of hr9);(have HR9:=Hh hr9);(have HB9:=Hh (HB2.out.trans (hb6.mono HB2.out.size)));clear hr9 hb6)
  refine ret_node (v:=.int .i64 q) HR9.out Tryz.results85 rfl rfl rfl ?_
  exact cleaf_res 2 false (n:Int) ⟨#[]⟩ q HB9.out HQQ.out (by decide) HWQ.out VV.out
 by_cases n208:v=208
 ·subst n208
  have RF:=Hh (fun wx=>rfixed_any s (p+1) 1 wx (by omega) hs (by decide))
  rw [show ((p+1:Nat):Int)=(p:Int)+1 from rfl,show ((1:Nat):Int)=1 from rfl] at RF
  have MB:Hid (mBig s.data.toList p 208<256 ^ 1):=Hh (mBig_lt _ _ _ _ (by decide))
  go_upto_region 20 with ((with_reducible refine (RF.out _).mono ?_);rintro e w2 ⟨n,q,rfl,hb2,hq⟩)
  have HR2:=Hh ((hb2.block _ (lt_of_block K0.out)).trans K0.out)
  have HB2:=Hh (B0.out.trans (hb2.mono B0.out.size))
  have hnb:n<256 ^ 1:=by
   rcases hq with ⟨-,h,-⟩ | ⟨-,h,-⟩
   ·rw [h];decide
   ·rw [h];exact MB.out
  have hnb':n<256:=hnb
  have HQ:=Hh hq
  have VF:Hid (∀y t,MIs (d+1) s.data.toList p y t→q=((p+1+1:Nat):Int)∧mBig s.data.toList p 208=n):=Hh fun y t h=>by
   obtain ⟨h1,h2⟩:=mnumw HG.out rfl y t h
   rw [HSZ.out,show pWid 208=1 from rfl] at h2
   rcases HQ.out with ⟨h3,-,-⟩ | ⟨h3,h4,h5⟩
   ·omega
   ·exact ⟨by omega,h4.symm⟩
  have hqq:q=-1∨q=(p:Int)+1+1∧p+1+1≤s.size:=by
   rcases hq with ⟨h,-,h2⟩ | ⟨h,-,h2⟩
   ·exact .inl h2
   ·exact .inr ⟨by omega,h⟩
  clear hb2 hq RF hnb
  obtain ⟨Z,hZ⟩:∃Z:Int,Z=sgnN 1 n:=⟨_,rfl⟩
  have hsh:wrap64 ((n:Int) * 72057594037927936) / 72057594037927936=Z:=by
   rw [hZ];exact sgn_1 n hnb'
  have HWQ:Hid (wideI Z=true):=Hh (by unfold wideI;rw [Bool.and_eq_true,decide_eq_true_eq,decide_eq_true_eq,hZ];exact sgw_1 n hnb')
  have HZ:=Hh hZ
  clear hZ
  have VV:Hid (∀y t,MIs (d+1) s.data.toList p y t→(.mk 2 false Z ⟨#[]⟩ [] [])=y∧0≤q∧t=s.data.toList.drop q.toNat):=Hh fun y t h=>by
   have h1:=mnumv HG.out rfl (z:=Z) (fun y t h=>by rw [msignv HG.out (by decide) (by decide) y t h,(VF.out y t h).2,HZ.out];rfl) y t h
   rw [(VF.out y t h).1]
   exact h1
  have HQQ:Hid (q=-1∨((p:Int)≤q∧q≤(s.size:Int)∧32+6 * ((0:Nat):Int)≤40 * (q - (p:Int)))):=Hh (by omega)
  clear hqq
  have NN:=Hh (fun wx=>cnumber_any Z wx)
  go_wp2_with (go_at_call 133;(with_reducible refine (NN.out _).mono ?_);rintro e6 w6 ⟨rfl,hb6⟩;(have hr9:=(hb6.block _ (lt_of_block HR2.out)).trans HR2.out);(have f9:=free_six hr9);(have c9:=six_of hr9);(have HR9:=Hh hr9);(have HB9:=Hh (HB2.out.trans (hb6.mono HB2.out.size)));clear hr9 hb6)
  refine ret_node (v:=.int .i64 q) HR9.out Tryz.results85 rfl rfl rfl ?_
  exact cleaf_res 2 false Z ⟨#[]⟩ q HB9.out HQQ.out (by decide) HWQ.out VV.out
 by_cases n209:v=209
 ·subst n209
  have RF:=Hh (fun wx=>rfixed_any s (p+1) 2 wx (by omega) hs (by decide))
  rw [show ((p+1:Nat):Int)=(p:Int)+1 from rfl,show ((2:Nat):Int)=2 from rfl] at RF
  have MB:Hid (mBig s.data.toList p 209<256 ^ 2):=Hh (mBig_lt _ _ _ _ (by decide))
  go_upto_region 20 with ((with_reducible refine (RF.out _).mono ?_);rintro e w2 ⟨n,q,rfl,hb2,hq⟩)
  have HR2:=Hh ((hb2.block _ (lt_of_block K0.out)).trans K0.out)
  have HB2:=Hh (B0.out.trans (hb2.mono B0.out.size))
  have hnb:n<256 ^ 2:=by
   rcases hq with ⟨-,h,-⟩ | ⟨-,h,-⟩
   ·rw [h];decide
   ·rw [h];exact MB.out
  have hnb':n<65536:=hnb
  have HQ:=Hh hq
  have VF:Hid (∀y t,MIs (d+1) s.data.toList p y t→q=((p+1+2:Nat):Int)∧mBig s.data.toList p 209=n):=Hh fun y t h=>by
   obtain ⟨h1,h2⟩:=mnumw HG.out rfl y t h
   rw [HSZ.out,show pWid 209=2 from rfl] at h2
   rcases HQ.out with ⟨h3,-,-⟩ | ⟨h3,h4,h5⟩
   ·omega
   ·exact ⟨by omega,h4.symm⟩
  have hqq:q=-1∨q=(p:Int)+1+2∧p+1+2≤s.size:=by
   rcases hq with ⟨h,-,h2⟩ | ⟨h,-,h2⟩
   ·exact .inl h2
   ·exact .inr ⟨by omega,h⟩
  clear hb2 hq RF hnb
  obtain ⟨Z,hZ⟩:∃Z:Int,Z=sgnN 2 n:=⟨_,rfl⟩
  have hsh:wrap64 ((n:Int) * 281474976710656) / 281474976710656=Z:=by
   rw [hZ];exact sgn_2 n hnb'
  have HWQ:Hid (wideI Z=true):=Hh (by unfold wideI;rw [Bool.and_eq_true,decide_eq_true_eq,decide_eq_true_eq,hZ];exact sgw_2 n hnb')
  have HZ:=Hh hZ
  clear hZ
  have VV:Hid (∀y t,MIs (d+1) s.data.toList p y t→(.mk 2 false Z ⟨#[]⟩ [] [])=y∧0≤q∧t=s.data.toList.drop q.toNat):=Hh fun y t h=>by
   have h1:=mnumv HG.out rfl (z:=Z) (fun y t h=>by rw [msignv HG.out (by decide) (by decide) y t h,(VF.out y t h).2,HZ.out];rfl) y t h
   rw [(VF.out y t h).1]
   exact h1
  have HQQ:Hid (q=-1∨((p:Int)≤q∧q≤(s.size:Int)∧32+6 * ((0:Nat):Int)≤40 * (q - (p:Int)))):=Hh (by omega)
  clear hqq
  have NN:=Hh (fun wx=>cnumber_any Z wx)
  go_wp2_with (go_at_call 133;(with_reducible refine (NN.out _).mono ?_);rintro e6 w6 ⟨rfl,hb6⟩;(have hr9:=(hb6.block _ (lt_of_block HR2.out)).trans HR2.out);(have f9:=free_six hr9);(have c9:=six_of hr9);(have HR9:=Hh hr9);(have HB9:=Hh (HB2.out.trans (hb6.mono HB2.out.size)));clear hr9 hb6)
  refine ret_node (v:=.int .i64 q) HR9.out Tryz.results85 rfl rfl rfl ?_
  exact cleaf_res 2 false Z ⟨#[]⟩ q HB9.out HQQ.out (by decide) HWQ.out VV.out
 by_cases n210:v=210
 ·subst n210
  have RF:=Hh (fun wx=>rfixed_any s (p+1) 4 wx (by omega) hs (by decide))
  rw [show ((p+1:Nat):Int)=(p:Int)+1 from rfl,show ((4:Nat):Int)=4 from rfl] at RF
  have MB:Hid (mBig s.data.toList p 210<256 ^ 4):=Hh (mBig_lt _ _ _ _ (by decide))
  go_upto_region 20 with ((with_reducible refine (RF.out _).mono ?_);rintro e w2 ⟨n,q,rfl,hb2,hq⟩)
  have HR2:=Hh ((hb2.block _ (lt_of_block K0.out)).trans K0.out)
  have HB2:=Hh (B0.out.trans (hb2.mono B0.out.size))
  have hnb:n<256 ^ 4:=by
   rcases hq with ⟨-,h,-⟩ | ⟨-,h,-⟩
   ·rw [h];decide
   ·rw [h];exact MB.out
  have hnb':n<4294967296:=hnb
  have HQ:=Hh hq
  have VF:Hid (∀y t,MIs (d+1) s.data.toList p y t→q=((p+1+4:Nat):Int)∧mBig s.data.toList p 210=n):=Hh fun y t h=>by
   obtain ⟨h1,h2⟩:=mnumw HG.out rfl y t h
   rw [HSZ.out,show pWid 210=4 from rfl] at h2
   rcases HQ.out with ⟨h3,-,-⟩ | ⟨h3,h4,h5⟩
   ·omega
   ·exact ⟨by omega,h4.symm⟩
  have hqq:q=-1∨q=(p:Int)+1+4∧p+1+4≤s.size:=by
   rcases hq with ⟨h,-,h2⟩ | ⟨h,-,h2⟩
   ·exact .inl h2
   ·exact .inr ⟨by omega,h⟩
  clear hb2 hq RF hnb
  obtain ⟨Z,hZ⟩:∃Z:Int,Z=sgnN 4 n:=⟨_,rfl⟩
  have hsh:wrap64 ((n:Int) * 4294967296) / 4294967296=Z:=by
   rw [hZ];exact sgn_4 n hnb'
  have HWQ:Hid (wideI Z=true):=Hh (by unfold wideI;rw [Bool.and_eq_true,decide_eq_true_eq,decide_eq_true_eq,hZ];exact sgw_4 n hnb')
  have HZ:=Hh hZ
  clear hZ
  have VV:Hid (∀y t,MIs (d+1) s.data.toList p y t→(.mk 2 false Z ⟨#[]⟩ [] [])=y∧0≤q∧t=s.data.toList.drop q.toNat):=Hh fun y t h=>by
   have h1:=mnumv HG.out rfl (z:=Z) (fun y t h=>by rw [msignv HG.out (by decide) (by decide) y t h,(VF.out y t h).2,HZ.out];rfl) y t h
   rw [(VF.out y t h).1]
   exact h1
  have HQQ:Hid (q=-1∨((p:Int)≤q∧q≤(s.size:Int)∧32+6 * ((0:Nat):Int)≤40 * (q - (p:Int)))):=Hh (by omega)
  clear hqq
  have NN:=Hh (fun wx=>cnumber_any Z wx)
  go_wp2_with (go_at_call 133;(with_reducible refine (NN.out _).mono ?_);rintro e6 w6 ⟨rfl,hb6⟩;(have hr9:=(hb6.block _ (lt_of_block HR2.out)).trans HR2.out);(have f9:=free_six hr9);(have c9:=six_of hr9);(have HR9:=Hh hr9);(have HB9:=Hh (HB2.out.trans (hb6.mono HB2.out.size)));clear hr9 hb6)
  refine ret_node (v:=.int .i64 q) HR9.out Tryz.results85 rfl rfl rfl ?_
  exact cleaf_res 2 false Z ⟨#[]⟩ q HB9.out HQQ.out (by decide) HWQ.out VV.out
 by_cases n211:v=211
 ·subst n211
  have RF:=Hh (fun wx=>rfixed_any s (p+1) 8 wx (by omega) hs (by decide))
  rw [show ((p+1:Nat):Int)=(p:Int)+1 from rfl,show ((8:Nat):Int)=8 from rfl] at RF
  have MB:Hid (mBig s.data.toList p 211<256 ^ 8):=Hh (mBig_lt _ _ _ _ (by decide))
  go_upto_region 20 with ((with_reducible refine (RF.out _).mono ?_);rintro e w2 ⟨n,q,rfl,hb2,hq⟩)
  have HR2:=Hh ((hb2.block _ (lt_of_block K0.out)).trans K0.out)
  have HB2:=Hh (B0.out.trans (hb2.mono B0.out.size))
  have hnb:n<256 ^ 8:=by
   rcases hq with ⟨-,h,-⟩ | ⟨-,h,-⟩
   ·rw [h];decide
   ·rw [h];exact MB.out
  have hnb':n<18446744073709551616:=hnb
  have HQ:=Hh hq
  have VF:Hid (∀y t,MIs (d+1) s.data.toList p y t→q=((p+1+8:Nat):Int)∧mBig s.data.toList p 211=n):=Hh fun y t h=>by
   obtain ⟨h1,h2⟩:=mnumw HG.out rfl y t h
   rw [HSZ.out,show pWid 211=8 from rfl] at h2
   rcases HQ.out with ⟨h3,-,-⟩ | ⟨h3,h4,h5⟩
   ·omega
   ·exact ⟨by omega,h4.symm⟩
  have hqq:q=-1∨q=(p:Int)+1+8∧p+1+8≤s.size:=by
   rcases hq with ⟨h,-,h2⟩ | ⟨h,-,h2⟩
   ·exact .inl h2
   ·exact .inr ⟨by omega,h⟩
  clear hb2 hq RF hnb
  obtain ⟨Z,hZ⟩:∃Z:Int,Z=sgnN 8 n:=⟨_,rfl⟩
  have hsh:wrap64 (n:Int)=Z:=by
   rw [hZ];exact sgn_8 n hnb'
  have HWQ:Hid (wideI Z=true):=Hh (by unfold wideI;rw [Bool.and_eq_true,decide_eq_true_eq,decide_eq_true_eq,hZ];exact sgw_8 n hnb')
  have HZ:=Hh hZ
  clear hZ
  have VV:Hid (∀y t,MIs (d+1) s.data.toList p y t→(.mk 2 false Z ⟨#[]⟩ [] [])=y∧0≤q∧t=s.data.toList.drop q.toNat):=Hh fun y t h=>by
   have h1:=mnumv HG.out rfl (z:=Z) (fun y t h=>by rw [msignv HG.out (by decide) (by decide) y t h,(VF.out y t h).2,HZ.out];rfl) y t h
   rw [(VF.out y t h).1]
   exact h1
  have HQQ:Hid (q=-1∨((p:Int)≤q∧q≤(s.size:Int)∧32+6 * ((0:Nat):Int)≤40 * (q - (p:Int)))):=Hh (by omega)
  clear hqq
  have NN:=Hh (fun wx=>cnumber_any Z wx)
  go_wp2_with (go_at_call 133;(with_reducible refine (NN.out _).mono ?_);rintro e6 w6 ⟨rfl,hb6⟩;(have hr9:=(hb6.block _ (lt_of_block HR2.out)).trans HR2.out);(have f9:=free_six hr9);(have c9:=six_of hr9);(have HR9:=Hh hr9);(have HB9:=Hh (HB2.out.trans (hb6.mono HB2.out.size)));clear hr9 hb6)
  refine ret_node (v:=.int .i64 q) HR9.out Tryz.results85 rfl rfl rfl ?_
  exact cleaf_res 2 false Z ⟨#[]⟩ q HB9.out HQQ.out (by decide) HWQ.out VV.out
 have LN:=Hh (fun wx=>rlength_any s p v wx hpn hs hv)
 have ab:v<204∨212≤v:=by omega
 have NF:Hid (¬LnOk v→∀y t,¬MIs (d+1) s.data.toList p y t):=Hh fun h=>by
  obtain ⟨c,hc,hcv⟩:=HG.out
  exact mfirst hc (by rw [hcv];rintro (h1 | h1 | h1 | h1 | h1 | h1 | h1) <;> first | exact h h1 | omega)
 have HH:Hid (∀y t,MIs (d+1) s.data.toList p y t→pCls v=y.kind∧p+1+pWid v≤s.size∧pDec v (mBig s.data.toList p v)=pPay y):=Hh fun y t h=>by
  obtain ⟨c,hc,hcv⟩:=HG.out
  obtain ⟨-,h1,h2,h3,-⟩:=mhead hc h
  rw [hcv] at h1 h2 h3
  rw [HSZ.out] at h2
  exact ⟨h1,h2,h3⟩
 have HT:Hid (pCls v=3→∀n:Nat,pDec v (mBig s.data.toList p v)=(n:Int)→∀y t,MIs (d+1) s.data.toList p y t→y=.mk 3 false 0 y.text [] []∧y.text.size=n∧y.text.data.toList++t=s.data.toList.drop (p+1+pWid v)):=Hh fun hk n hn=>by
  obtain ⟨c,hc,hcv⟩:=HG.out
  have:=mtext (d:=d) hc (by rw [hcv];exact hk) (n:=n) (by rw [hcv];exact hn)
  rw [hcv] at this
  exact this
 have HL:Hid (pCls v=4∨pCls v=5→∀n:Nat,pDec v (mBig s.data.toList p v)=(n:Int)→MLs d (pCls v) n s.data.toList p [] [] (p+1+pWid v)):=Hh fun hk n hn=>by
  obtain ⟨c,hc,hcv⟩:=HG.out
  have:=MLs.start (d:=d) hc (by rw [hcv];exact hk) (n:=n) (by rw [hcv];exact hn)
  rw [hcv] at this
  exact this
 have HDN:Hid (LnOk v→(pCls v=3∨pCls v=4∨pCls v=5)∧0≤pDec v (mBig s.data.toList p v)∧pDec v (mBig s.data.toList p v)<4294967296):=Hh fun h=>mdec_ok h (bigV_take _ _ (lnw h))
 rcases ab with ab | ab
 focus
  have o1:¬ (204:Int)≤(v:Int):=by omega
  have o2:¬ (208:Int)≤(v:Int):=by omega
  go_upto_region 22 with ((with_reducible refine (LN.out _).mono ?_);rintro e w2 ⟨k,n,q,rfl,hb2,hq⟩)
 rotate_left
 focus
  have o1:(204:Int)≤(v:Int):=by omega
  have o2:¬ (v:Int)≤207:=by omega
  have o3:(208:Int)≤(v:Int):=by omega
  have o4:¬ (v:Int)≤211:=by omega
  go_upto_region 22 with ((with_reducible refine (LN.out _).mono ?_);rintro e w2 ⟨k,n,q,rfl,hb2,hq⟩)
 rotate_left
 all_goals (
  have HR2:=Hh ((hb2.block _ (lt_of_block K0.out)).trans K0.out)
  have HB2:=Hh (B0.out.trans (hb2.mono B0.out.size))
  have HX2:=Hh (Ll WL.out hb2.size)
  clear hb2
  by_cases hqm:q=-1
  ·have HNO:Hid (LnOk v→s.size<p+1+pWid v):=Hh (by rcases hq with ⟨-,-,-,-,h⟩ | ⟨-,h⟩;omega;exact h)
   clear hq
   subst hqm
   have VAC:Hid (∀y t,¬MIs (d+1) s.data.toList p y t):=Hh (fun y t h=>by
    by_cases ok:LnOk v
    ·have h1:=HNO.out ok
     have h2:=(HH.out y t h).2.1
     omega
    ·exact NF.out ok y t h)
   have f1:=free_six HR2.out
   have c1:=six_of HR2.out
   go_wp2
   refine ret_node (v:=.int .i64 (-1)) HR2.out Tryz.results85 rfl rfl rfl ?_
   exact cleaf_res 0 false 0 ⟨#[]⟩ (-1) HB2.out (.inl rfl) (by decide) (by decide) (fun y t hV=>absurd hV (VAC.out y t))
  have hq:=hq.resolve_right (fun h=>hqm h.1)
  obtain ⟨ok,hsz,hk,hn,hqe⟩:=hq
  clear hqm
  obtain ⟨hk345,hn0,hn9⟩:=HDN.out ok
  have hn':n=pDec v (mBig s.data.toList p v):=hn
  rw [←hn'] at hn0 hn9
  obtain ⟨N,hN⟩:∃N:Nat,(N:Int)=n:=⟨n.toNat,by omega⟩
  obtain ⟨q1,hq1⟩:∃q1:Nat,q1=p+1+pWid v:=⟨_,rfl⟩
  rw [←hq1] at hsz hqe
  subst hqe
  subst hN
  rw [←hk] at hk345
  have HPD:=Hh hn'
  have HQ1:=Hh hq1
  have HK:=Hh hk
  have hpq:p<q1:=by omega
  clear hn hn' hq1 hn0 hk ok
  have hq1i:(q1:Int)≤(s.size:Int):=by omega
  have hq1z:(0:Int)≤(q1:Int):=by omega
  have hqd:decide ((q1:Int)<0)=false:=decide_eq_false (by omega)
  obtain ⟨dn,hdn⟩:∃dn,dn=s.size - q1:=⟨_,rfl⟩
  have ed:(s.size:Int) - (q1:Int)=(dn:Int):=by omega
  clear hdn
  by_cases k3:k=3
  ·subst k3
   by_cases hlong:(dn:Int)<(N:Int)
   ·have VAC:Hid (∀y t,¬MIs (d+1) s.data.toList p y t):=Hh (fun y t h=>by
     obtain ⟨-,h2,h3⟩:=HT.out HK.out.symm N HPD.out.symm y t h
     have h4:=congrArg List.length h3
     rw [Lg,Array.length_toList,List.length_drop,HSZ.out,←HQ1.out] at h4
     have h5:y.text.data.size=y.text.size:=rfl
     omega)
    have f1:=free_six HR2.out
    have c1:=six_of HR2.out
    go_wp2
    refine ret_node (v:=.int .i64 (-1)) HR2.out Tryz.results85 rfl rfl rfl ?_
    exact cleaf_res 0 false 0 ⟨#[]⟩ (-1) HB2.out (.inl rfl) (by decide) (by decide) (fun y t hV=>absurd hV (VAC.out y t))
   ·obtain ⟨rn,hrn⟩:∃rn,rn=q1+N:=⟨_,rfl⟩
    have er:(q1:Int)+(N:Int)=(rn:Int):=by omega
    have hwr:IntKind.i64.wrap (rn:Int)=(rn:Int):=IntWalk.i64_in _ (by omega)
    have hrsi:(rn:Int)≤(s.size:Int):=by omega
    have hqri:(q1:Int)≤(rn:Int):=by omega
    obtain ⟨o,ho⟩:∃o,s.extract q1 rn=o:=⟨_,rfl⟩
    have hosz:o.size=N:=by rw [←ho,ByteArray.size_extract];omega
    have hol:o.data.toList=(s.data.toList.drop q1).take N:=by
     rw [←ho,ByteArray.data_extract,Array.toList_extract]
     simp only [List.extract]
     rw [show rn - q1=N by omega]
    have VV:Hid (∀y t,MIs (d+1) s.data.toList p y t→(.mk 3 false 0 o [] [])=y∧0≤(rn:Int)∧t=s.data.toList.drop (rn:Int).toNat):=Hh fun y t h=>by
     obtain ⟨h1,h2,h3⟩:=HT.out HK.out.symm N HPD.out.symm y t h
     rw [←HQ1.out] at h3
     have hzl:y.text.data.toList.length=N:=by rw [←h2,Array.length_toList];rfl
     refine ⟨?_,by omega,?_⟩
     ·rw [h1,show o=y.text from data_inj (by rw [hol,←h3,List.take_left' hzl])]
     ·rw [Int.toNat_natCast,hrn,←List.drop_drop,←h3,List.drop_left' hzl]
    have HO:Hid (o.size≤maxLen - 2∧((rn:Int)=-1∨((p:Int)≤(rn:Int)∧(rn:Int)≤(s.size:Int)∧32+6 * (o.size:Int)≤40 * ((rn:Int) - (p:Int))))):=Hh ⟨by unfold maxLen;omega,by omega⟩
    have NT:=Hh (fun sl wx=>ctext5_any sl wx)
    clear hosz hol hrn
    go_wp2_with (go_at_call 33;(with_reducible refine (NT.out _ _).mono ?_);rintro e6 w6 ⟨rfl,hb6⟩;(have hr9:=(hb6.block _ (lt_of_block HR2.out)).trans HR2.out);(have f9:=free_six hr9);(have c9:=six_of hr9);(have HR9:=Hh hr9);(have HB9:=Hh (HB2.out.trans (hb6.mono HB2.out.size)));clear hr9 hb6)
    refine ret_node (v:=.int .i64 (rn:Int)) HR9.out Tryz.results85 rfl rfl rfl ?_
    exact cleaf_res 3 false 0 o (rn:Int) HB9.out HO.out.2 HO.out.1 (by decide) VV.out
  have k3b:(k == 3)=false:=by rw [beq_eq_false_iff_ne];exact k3
  have k45:k=4∨k=5:=by omega
  by_cases h256:256<N
  ·have h256i:(256:Int)<(N:Int):=by omega
   have HKN:Hid ((k=4∨k=5)∧256<N):=Hh ⟨k45,h256⟩
   clear k45 hk345 h256 hsz hpq hn9
   have VAC:Hid (∀y t,¬MIs (d+1) s.data.toList p y t):=Hh (fun y t h=>by
    obtain ⟨h1,h2,h3⟩:=HH.out y t h
    rw [←HK.out] at h1
    rw [←HPD.out] at h3
    have h9:=HKN.out
    rcases mcases h.1 h.2.1 with ⟨c1,-⟩ | ⟨c1,-⟩ | ⟨c1,-⟩ | ⟨c1,-⟩ | ⟨c1,c2,c3,-⟩ | ⟨c1,c2,c3,-⟩ <;> omega)
   have f1:=free_six HR2.out
   have c1:=six_of HR2.out
   go_wp2
   refine ret_node (v:=.int .i64 (-1)) HR2.out Tryz.results85 rfl rfl rfl ?_
   exact cleaf_res 0 false 0 ⟨#[]⟩ (-1) HB2.out (.inl rfl) (by decide) (by decide) (fun y t hV=>absurd hV (VAC.out y t))
  have h256i:¬ (256:Int)<(N:Int):=by omega
  have HLI:=HL.out (by rw [←HK.out];exact k45) N HPD.out.symm
  rw [←HK.out,←HQ1.out] at HLI
  have HC:=Hh (IT.out q1 hpq (by omega) k k45 N (by omega) HLI w2 (by have:=HX2.out;omega))
  clear HLI
  go_wp2_with (go_at_call 138;(with_reducible refine (HC.out).mono ?_);rintro e5 w5 ⟨cs,x,q,rfl,hnode,hb5,hq5,hf5,hv5⟩;go_loud ((obtain ⟨a1,l1,c1,a2,l2,c2,hcs⟩:=hnode.slices);subst hcs;(have hr9:=(hb5.block _ (lt_of_block HR2.out)).trans HR2.out);(have f9:=free_six hr9);(have c9:=six_of hr9);(have HR9:=Hh hr9);(have HN:=Hh (Ai hnode (Ai hb5 (Ai hq5 hf5))));(have HVV:=Hh hv5);clear hr9 hnode hb5 hq5 hf5 hv5))
  refine bodyPost_ret (v:=.tuple #[.agg #[.int .i64 x.kind,.bool x.bool,.int .i64 x.num,.string x.text,.slice a1 l1 c1,.slice a2 l2 c2],.int .i64 q]) ?_ ?_ ?_
  rotate_left
  ·rfl
  ·exact cv_on HN.out.1 HX2.out HB2.out HN.out.2.1 HN.out.2.2.1 HN.out.2.2.2 HVV.out
  ·obtain ⟨q0,q1,q2,q3,q4,q5⟩:=six_of (six_put HR9.out (.int .i64 x.kind) (.bool x.bool) (.int .i64 x.num) (.string x.text) (.slice a1 l1 c1) (.slice a2 l2 c2))
   simp only [set6] at q0 q1 q2 q3 q4 q5
   simp [results,Tryz.results85,go_sem,q0,q1,q2,q3,q4,q5])
theorem rm0 (s:ByteArray):RmAt 0 s 0:=fun p w _ _ hw=>rmvalue_zero s p w hw
theorem rm1 (s:ByteArray) (hs:s.size≤1000000):∀k p0,s.size+1 - p0≤k→RmAt 1 s p0
 | 0,p0,h=>fun p w h1 h2 _=>by omega
 | k+1,p0,h=>fun p w h1 h2 hw=>rmvalue_step 0 (by decide) s hs p h2 (rm1 s hs k (p+1) (by omega)) (rm0 s) w hw
theorem rm_all (s:ByteArray) (hs:s.size≤1000000):∀d,d≤20→RmAt d s 0
 | 0,_=>rm0 s
 | d+1,h=>fun p w _ h2 hw=>rmvalue_step d (by omega) s hs p h2 (rm1 s hs (s.size+1) (p+1) (by omega)) (rm_all s hs d (by omega)) w hw
theorem rmvalue_any (d:Nat) (hd:d≤20) (s:ByteArray) (p:Nat) (w:World) (hw:0<w.heap.size) (hp:p≤s.size) (hs:s.size≤1000000):Calls Tryz.prog 85 #[.string s,.int .i64 (p:Int),.int .i64 (d:Int)] w (RcPost (MIs d s.data.toList p) d s p w):=rm_all s hs d hd p w (Nat.zero_le _) hp hw
end Go.Proofs.YtcklddldejejcaaGreatDoor