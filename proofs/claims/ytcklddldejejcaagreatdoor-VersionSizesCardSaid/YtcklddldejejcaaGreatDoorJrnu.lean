/- The document's reader: numbers. -/
import Derived.Test.YtcklddldejejcaaGreatDoorJcost
import Derived.Test.YtcklddldejejcaaGreatDoorJrqu
import Derived.BigQuiet
import Derived.Deep.QuietTactic
set_option linter.unusedVariables false
set_option linter.unusedSimpArgs false
set_option maxRecDepth 100000
set_option maxHeartbeats 3200000
namespace Go.Proofs.YtcklddldejejcaaGreatDoor
open Go Go.ChangeShapes Go.WideShapes Go.ChangeAt Go.RowKit
def RvPost (V:ND→List UInt8→Prop) (d:Nat) (s:ByteArray) (p:Nat) (w:World) (e:Ending) (w':World):Prop:=∃ (cs:List Value) (x:ND) (q:Int),e=.returned (.tuple #[.agg cs.toArray,.int .i64 q])∧NodeIn (d+1) (fun b=>w.heap.size≤b∧b<w'.heap.size) w' cs x∧Below w.heap.size w w'∧(q=-1∨((p:Int)≤q∧q≤(s.size:Int)∧(costN (d+1) x:Int)≤40 * (q - (p:Int))))∧(lowV (d+1) x∧numsB (d+1) x=true)∧∀y t,V y t→x=y∧0≤q∧t=s.data.toList.drop q.toNat
theorem rleaf_res {V:ND→List UInt8→Prop} {d p:Nat} {s:ByteArray} {w wx:World} (k:Int) (b:Bool) (z:Int) (t:ByteArray) (q:Int) (hb:Below w.heap.size w wx) (hq:q=-1∨((p:Int)≤q∧q≤(s.size:Int)∧24+6 * (t.size:Int)≤40 * (q - (p:Int)))) (ht:t.size≤maxLen - 2) (hz:wideI z=true)
 (hV:∀y t',V y t'→(.mk k b z t [] [])=y∧0≤q∧t'=s.data.toList.drop q.toNat) :
 RvPost V d s p w (.returned (.tuple #[.agg #[.int .i64 k,.bool b,.int .i64 z,.string t,.slice none 0 0,.slice none 0 0],.int .i64 q])) (set6 wx w.heap.size (.int .i64 k) (.bool b) (.int .i64 z) (.string t) (.slice none 0 0) (.slice none 0 0)):=by
 have hgs:=grown_set6 wx w.heap.size (.int .i64 k) (.bool b) (.int .i64 z) (.string t) (.slice none 0 0) (.slice none 0 0)
 refine ⟨[.int .i64 k,.bool b,.int .i64 z,.string t,.slice none 0 0,.slice none 0 0],_,q,rfl,(node_leaf _ _ k b z t ht).deeper (by omega),hb.grown hgs hb.size (fun k hk=>by cases hk;exact Lr _),hq.imp_right (fun h=>⟨h.1,h.2.1,by rw [costN_succ];show ((24+6 * t.size+0+0:Nat):Int)≤_;have:=h.2.2;omega⟩),⟨⟨by simp [ND.items],fun y hy=>by simp [ND.items] at hy⟩,?_⟩,hV⟩
 rw [numsB_succ,Bool.and_eq_true]
 exact ⟨hz,rfl⟩
theorem rnumber_any (z:Int) (w:World):Calls Tryz.prog 133 #[.int .i64 z] w fun e w'=>e=.returned (.agg #[.int .i64 2,.bool false,.int .i64 z,.string ⟨#[]⟩,.slice none 0 0,.slice none 0 0])∧Below w.heap.size w w':=by
 have b0:=(Br w.heap.size w).alloc (o:=.cells #[.int .i64 2,.bool false,.int .i64 z,.string ⟨#[]⟩,.slice none 0 0,.slice none 0 0] 28) (Lr _)
 have k0:=Hn w (.cells #[.int .i64 2,.bool false,.int .i64 z,.string ⟨#[]⟩,.slice none 0 0,.slice none 0 0] 28)
 obtain ⟨q0,q1,q2,q3,q4,q5⟩:=six_of k0
 go_enter Tryz.func133,Tryz.ntmps133
 go_wp2
 refine bodyPost_ret (v:=.agg #[.int .i64 2,.bool false,.int .i64 z,.string ⟨#[]⟩,.slice none 0 0,.slice none 0 0]) ?_ ?_ ?_
 rotate_left
 ·rfl
 ·exact ⟨rfl,b0⟩
 ·simp [results,Tryz.results133,go_sem,q0,q1,q2,q3,q4,q5]
theorem rtext5_any (z:ByteArray) (w:World):Calls Tryz.prog 33 #[.string z] w fun e w'=>e=.returned (.agg #[.int .i64 3,.bool false,.int .i64 0,.string z,.slice none 0 0,.slice none 0 0])∧Below w.heap.size w w':=by
 have b0:=(Br w.heap.size w).alloc (o:=.cells #[.int .i64 3,.bool false,.int .i64 0,.string z,.slice none 0 0,.slice none 0 0] 28) (Lr _)
 have k0:=Hn w (.cells #[.int .i64 3,.bool false,.int .i64 0,.string z,.slice none 0 0,.slice none 0 0] 28)
 obtain ⟨q0,q1,q2,q3,q4,q5⟩:=six_of k0
 go_enter Tryz.func33,Tryz.ntmps33
 go_wp2
 refine bodyPost_ret (v:=.agg #[.int .i64 3,.bool false,.int .i64 0,.string z,.slice none 0 0,.slice none 0 0]) ?_ ?_ ?_
 rotate_left
 ·rfl
 ·exact ⟨rfl,b0⟩
 ·simp [results,Tryz.results33,go_sem,q0,q1,q2,q3,q4,q5]
theorem tw_lt {f:UInt8→Bool}:∀ {r:List UInt8} {k:Nat},k<(r.takeWhile f).length→∃c,r[k]?=some c∧f c=true∧(r.takeWhile f)[k]?=some c
 | [],k,h=>by simp at h
 | a::t,k,h=>by
  rw [List.takeWhile_cons] at h ⊢
  cases ha:f a with
  | false=>rw [ha] at h;simp at h
  | true=>
   rw [ha] at h
   simp only [if_true] at h ⊢
   cases k with
   | zero=>exact ⟨a,rfl,ha,rfl⟩
   | succ k=>
    obtain ⟨c,h1,h2,h3⟩:=tw_lt (f:=f) (r:=t) (k:=k) (by simpa using h)
    exact ⟨c,by simpa using h1,h2,by simpa using h3⟩
theorem tw_end {f:UInt8→Bool}:∀ {r:List UInt8} {c:UInt8},r[(r.takeWhile f).length]?=some c→f c=false
 | [],c,h=>by simp at h
 | a::t,c,h=>by
  rw [List.takeWhile_cons] at h
  cases ha:f a with
  | false=>rw [ha] at h;simp at h;rw [←h];exact ha
  | true=>rw [ha] at h;exact tw_end (f:=f) (r:=t) (by simpa using h)
theorem dw_drop {f:UInt8→Bool}:∀ (r:List UInt8),r.dropWhile f=r.drop (r.takeWhile f).length
 | []=>by simp
 | a::t=>by
  rw [List.takeWhile_cons,List.dropWhile_cons]
  cases ha:f a with
  | false=>rfl
  | true=>simpa using dw_drop (f:=f) t
theorem decVal_bd0:∀ (l:List UInt8) (a:Nat),(∀c,c ∈ l→isDig c=true)→l.foldl (fun a c=>a * 10+(c.toNat - 48)) a<(a+1) * 10 ^ l.length
 | [],a,_=>by simp
 | c::t,a,h=>by
  have h1:=decVal_bd0 t (a * 10+(c.toNat - 48)) fun d hd=>h d (by simp [hd])
  have h2:=isDig_ne (h c (by simp))
  rw [List.foldl_cons,List.length_cons,Nat.pow_succ]
  refine Ll h1 ?_
  rw [Nat.mul_comm (10 ^ t.length) 10,←Nat.mul_assoc]
  exact Nat.mul_le_mul_right _ (by omega)
theorem decVal_bd (l:List UInt8) (h:∀c,c ∈ l→isDig c=true):decVal l<10 ^ l.length:=by
 have:=decVal_bd0 l 0 h
 unfold decVal
 omega
theorem rnum_any (s:ByteArray) (p:Nat) (w:World) (hp:p<s.size) (hs:s.size≤1000000):Calls Tryz.prog 128 #[.string s,.int .i64 (p:Int)] w (RvPost (fun y t=>numberP (s.data.toList.drop p)=some (y,t)) 0 s p w):=by
 obtain ⟨l,hl⟩:∃l,l=s.data.toList:=⟨_,rfl⟩
 have hsz:l.length=s.size:=by rw [hl,Array.length_toList];rfl
 have HSZ:=Hh hsz
 have HL:=Hh hl
 have HGET:Hid (∀ (p:Nat) (h:p<s.size),l[p]?=some (s[p]'h)):=Hh fun p h=>by rw [hl,List.getElem?_eq_getElem (by rw [Array.length_toList];exact h)];rfl
 have hsi:(s.size:Int)≤1000000:=by omega
 have hpi:(p:Int)<(s.size:Int):=by omega
 have hpz:(0:Int)≤(p:Int):=by omega
 have gc:=HGET.out p hp
 obtain ⟨c0,hc0⟩:∃c0,c0=s[p]'hp:=⟨_,rfl⟩
 rw [←hc0] at gc
 have hc0':=hc0.symm
 have HG:=Hh gc
 clear hsz gc hc0
 go_enter Tryz.func128,Tryz.ntmps128
 go_upto_region 1 with fail
 generalize ae:w.alloc _=w0
 obtain ⟨b0,k0⟩:=Al ae
 clear ae
 have B0:=Hh b0
 have K0:=Hh k0
 clear b0 k0
 by_cases hm:c0=45
 ·have m45:((c0.toNat:Int) == 45)=true:=by rw [hm];rfl
  have m45b:((c0.toNat:Int) != 45)=false:=by rw [bne,m45];rfl
  obtain ⟨q0,hq0⟩:∃q0,q0=p+1:=⟨_,rfl⟩
  have eq0:(p:Int)+1=(q0:Int):=by omega
  have HNP:Hid (numberP (l.drop p)=digsP true (l.drop q0)):=Hh (by unfold numberP;rw [drop_at HG.out,hm,hq0];exact if_pos rfl)
  have hq0s:q0≤s.size:=by omega
  have hq0p:p≤q0:=by omega
  have HQ0:=Hh hq0
  clear hq0
  have HM:=Hh hm
  clear hm
  obtain ⟨D,hD⟩:∃D,D=(l.drop q0).takeWhile isDig:=⟨_,rfl⟩
  have HD:=Hh hD
  have HALL:Hid (∀c,c ∈ D→isDig c=true):=Hh fun c hc=>by
   obtain ⟨k,hk⟩:=List.getElem?_of_mem hc
   rw [hD] at hk
   obtain ⟨c',-,h2,h3⟩:=tw_lt (f:=isDig) (r:=l.drop q0) (k:=k) (lt_of_some hk)
   rw [hk] at h3
   cases h3
   exact h2
  clear hD
  go_upto_region 6 with fail
  go_loopw [6,7,8] (fun vq vu vk wr=>∃ (k:Nat) (U:Int),vq=.int .i64 ((q0+k:Nat):Int)∧vu=.int .u64 U∧vk=.int .i64 (k:Int)∧k≤D.length∧k≤19∧q0+k≤s.size∧U=(decVal (D.take k):Int)∧wr=w0) (fun _ _ vk _=>20 - (intOf vk).toNat)
  case atStart=>exact ⟨0,0,by first | rfl | (simp;done) | (rw [HQ0.out];rfl),rfl,rfl,Nat.zero_le _,by omega,hq0s,rfl,rfl⟩
  case round=>
   obtain ⟨k,U,rfl,rfl,rfl,hkD,hk19,hqs,hU,hw⟩:=hrel
   replace hw:=hw.symm
   subst hw
   obtain ⟨q,hq⟩:∃q,q=q0+k:=⟨_,rfl⟩
   rw [←hq] at hqs ⊢
   have HU:=Hh hU
   have HQ:=Hh hq
   clear hU hq
   have hqz:(0:Int)≤(q:Int):=by omega
   have hqi:(q:Int)≤(s.size:Int):=by omega
   by_cases hk:k<D.length
   ·obtain ⟨c,h1,h2,h3⟩:=tw_lt (f:=isDig) (r:=l.drop q0) (k:=k) (by rw [←HD.out];exact hk)
    rw [List.getElem?_drop,←HQ.out] at h1
    rw [←HD.out] at h3
    have hqn:q<s.size:=by have:=lt_of_some h1;have:=HSZ.out;omega
    have hqj:(q:Int)<(s.size:Int):=by omega
    have hcc:s[q]'hqn=c:=Option.some.inj ((HGET.out q hqn).symm.trans h1)
    obtain ⟨d1,d2⟩:=isDig_ne h2
    have d1':(48:Int)≤(c.toNat:Int):=by omega
    have d2':(c.toNat:Int)≤57:=by omega
    have H3:=Hh (Ai h3 h2)
    clear h1 h2 h3
    by_cases h19:k=19
    ·have e19:((k:Int) == 19)=true:=by rw [h19];rfl
     have HV:Hid (∀y t,¬numberP (l.drop p)=some (y,t)):=Hh fun y t h=>by
      rw [HNP.out] at h
      unfold digsP at h
      rw [←HD.out,if_pos (.inr (by omega))] at h
      cases h
     have f1:=free_six K0.out
     have c1:=six_of K0.out
     clear h19
     go_wp2
     refine ret_node (v:=.int .i64 (-1)) K0.out Tryz.results128 rfl rfl rfl ?_
     exact rleaf_res 0 false 0 ⟨#[]⟩ (-1) B0.out (.inl rfl) (by decide) (by decide) (fun y t h=>absurd (by rw [HL.out];exact h) (HV.out y t))
    ·have e19:((k:Int) == 19)=false:=by rw [beq_eq_false_iff_ne];omega
     have hdv:IntKind.u64.wrap (IntKind.u64.wrap (10 * U)+((c.toNat:Int) - 48))=(decVal (D.take (k+1)):Int):=by
      have hb:decVal (D.take (k+1))<10 ^ (k+1):=by
       have:=decVal_bd (D.take (k+1)) (fun d hd=>(HALL.out d (List.mem_of_mem_take hd)))
       rw [List.length_take,Nat.min_eq_left (by omega)] at this
       exact this
      have hb2:10 ^ (k+1)≤10 ^ 19:=Nat.pow_le_pow_right (by decide) (by omega)
      have hs:decVal (D.take (k+1))=decVal (D.take k) * 10+(c.toNat - 48):=by
       rw [List.take_add_one,H3.out.1]
       exact decVal_snoc _ _
      have hu:=HU.out
      rw [IntKind.wrap_u64,IntKind.wrap_u64]
      have h10:(10:Nat) ^ 19=10000000000000000000:=by decide
      omega
     have HDV:=Hh hdv
     clear hdv
     go_wp2
     go_roundw
     case rel=>exact ⟨k+1,_,by rw [HQ.out];simp [Int.add_assoc],rfl,by simp,by omega,by omega,by have:=HQ.out;omega,HDV.out,by first | exact rfl | trivial⟩
     case measure=>simp [intOf];omega
   ·have hke:k=D.length:=by omega
    have hend:(¬ (q:Int)<(s.size:Int))∨(∃ (h:q<s.size) (c:UInt8),(q:Int)<(s.size:Int)∧s[q]'h=c∧¬ (48:Int)≤(c.toNat:Int))∨(∃ (h:q<s.size) (c:UInt8),(q:Int)<(s.size:Int)∧s[q]'h=c∧(48:Int)≤(c.toNat:Int)∧¬ (c.toNat:Int)≤57):=by
     by_cases hqn:q<s.size
     ·right
      have hc:=HGET.out q hqn
      have hf:=tw_end (f:=isDig) (r:=l.drop q0) (c:=s[q]'hqn) (by rw [←HD.out,←hke,List.getElem?_drop,←HQ.out];exact hc)
      unfold isDig at hf
      by_cases h48:48≤s[q]'hqn
      ·right
       rw [decide_eq_true h48,Bool.true_and,decide_eq_false_iff_not] at hf
       exact ⟨hqn,_,by omega,rfl,by have:=UInt8.le_iff_toNat_le.1 h48;rw [show (48:UInt8).toNat=48 from rfl] at this;omega,by intro h;exact hf (UInt8.le_iff_toNat_le.2 (by rw [show (57:UInt8).toNat=57 from rfl];omega))⟩
      ·left
       exact ⟨hqn,_,by omega,rfl,by intro h;exact h48 (UInt8.le_iff_toNat_le.2 (by rw [show (48:UInt8).toNat=48 from rfl];omega))⟩
     ·exact .inl (by omega)
    have HK:=Hh hke
    have HU0:Hid (0≤U∧U<10000000000000000000):=Hh (by
     have hb:=decVal_bd (D.take k) (fun d hd=>(HALL.out d (List.mem_of_mem_take hd)))
     rw [List.length_take,Nat.min_eq_left (by omega)] at hb
     have hb2:10 ^ k≤10 ^ 19:=Nat.pow_le_pow_right (by decide) (by omega)
     have h10:(10:Nat) ^ 19=10000000000000000000:=by decide
     have:=HU.out
     omega)
    clear hke hk
    rcases hend with hq1 | ⟨hqn,c,hqj,hcc,hc1⟩ | ⟨hqn,c,hqj,hcc,hc1,hc2⟩
    all_goals
     by_cases hz:k=0
     ·have ez:((k:Int) == 0)=true:=by rw [hz];rfl
      have HV:Hid (∀y t,¬numberP (l.drop p)=some (y,t)):=Hh fun y t h=>by
       rw [HNP.out] at h
       unfold digsP at h
       rw [←HD.out,if_pos (.inl (by have:=HK.out;omega))] at h
       cases h
      have f1:=free_six K0.out
      have c1:=six_of K0.out
      clear hz
      go_wp2
      refine ret_node (v:=.int .i64 (-1)) K0.out Tryz.results128 rfl rfl rfl ?_
      exact rleaf_res 0 false 0 ⟨#[]⟩ (-1) B0.out (.inl rfl) (by decide) (by decide) (fun y t h=>absurd (by rw [HL.out];exact h) (HV.out y t))
     ·have ez:((k:Int) == 0)=false:=by rw [beq_eq_false_iff_ne];omega
      by_cases h64:9223372036854775808<U
      ·have HV:Hid (∀y t,¬numberP (l.drop p)=some (y,t)):=Hh fun y t h=>by
        rw [HNP.out] at h
        unfold digsP at h
        have hk':=HK.out
        have hu':=HU.out
        have hu2:U=(decVal D:Int):=by rw [hu',hk',List.take_of_length_le (Lr _)]
        rw [←HD.out,if_neg (by omega),if_pos (by right;omega)] at h
        cases h
       have f1:=free_six K0.out
       have c1:=six_of K0.out
       go_wp2
       refine ret_node (v:=.int .i64 (-1)) K0.out Tryz.results128 rfl rfl rfl ?_
       exact rleaf_res 0 false 0 ⟨#[]⟩ (-1) B0.out (.inl rfl) (by decide) (by decide) (fun y t h=>absurd (by rw [HL.out];exact h) (HV.out y t))
      ·have hz2:¬9223372036854775808<U:=h64
       have hnu:IntKind.i64.wrap (IntKind.u64.wrap (-U))=-U:=by
        have:=HU0.out
        rw [IntKind.wrap_u64,IntKind.wrap_i64]
        omega
       have HWI:Hid (wideI (-U)=true):=Hh (by have:=HU0.out;exact wideI_of (by omega) (by omega))
       have HV:Hid (∀y t,numberP (l.drop p)=some (y,t)→(.mk 2 false (-U) ⟨#[]⟩ [] [])=y∧t=l.drop q):=Hh fun y t h=>by
        rw [HNP.out] at h
        unfold digsP at h
        have hk':=HK.out
        have hu':=HU.out
        have hu2:U=(decVal D:Int):=by rw [hu',hk',List.take_of_length_le (Lr _)]
        rw [←HD.out,if_neg (by omega),if_neg (by rintro (⟨h,-⟩ | h);cases h;omega),dw_drop,←HD.out,List.drop_drop] at h
        cases h
        refine ⟨?_,by rw [HQ.out,hk']⟩
        rw [hu',hk',List.take_of_length_le (Lr _)]
        first | rfl | simp
       have NU:=Hh (rnumber_any (-U) w0)
       have HQB:Hid ((p:Int)≤(q:Int)∧(q:Int)≤(s.size:Int)∧24+6 * ((0:Nat):Int)≤40 * ((q:Int) - (p:Int))):=Hh (by have:=HQ.out;omega)
       clear hz h64
       go_wp2_with (go_at_call 133;(with_reducible refine (NU.out).mono ?_);rintro e w3 ⟨rfl,hb3⟩;(have k3:=(hb3.block _ (lt_of_block K0.out)).trans K0.out);(have f3:=free_six k3);(have c3:=six_of k3);(have K3:=Hh k3);clear k3)
       refine ret_node (v:=.int .i64 (q:Int)) K3.out Tryz.results128 rfl rfl rfl ?_
       exact rleaf_res 2 false (-U) ⟨#[]⟩ (q:Int) (B0.out.trans (hb3.mono B0.out.size)) (.inr HQB.out) (by decide) HWI.out (fun y t h=>by obtain ⟨h1,h2⟩:=HV.out y t (by rw [HL.out];exact h);exact ⟨h1,by omega,by rw [h2,HL.out];rfl⟩)
 ·have m45:((c0.toNat:Int) == 45)=false:=by
   rw [beq_eq_false_iff_ne];intro e;exact hm (UInt8.toNat_inj.1 (by rw [show (45:UInt8).toNat=45 from rfl];omega))
  have m45b:((c0.toNat:Int) != 45)=true:=by rw [bne,m45];rfl
  obtain ⟨q0,hq0⟩:∃q0,q0=p:=⟨_,rfl⟩
  have HNP:Hid (numberP (l.drop p)=digsP false (l.drop q0)):=Hh (by unfold numberP;rw [drop_at HG.out,←drop_at HG.out,hq0,drop_at HG.out];exact if_neg (by simpa using hm))
  have hq0s:q0≤s.size:=by omega
  have hq0p:p≤q0:=by omega
  have HQ0:=Hh hq0
  clear hq0
  have HM:=Hh hm
  clear hm
  obtain ⟨D,hD⟩:∃D,D=(l.drop q0).takeWhile isDig:=⟨_,rfl⟩
  have HD:=Hh hD
  have HALL:Hid (∀c,c ∈ D→isDig c=true):=Hh fun c hc=>by
   obtain ⟨k,hk⟩:=List.getElem?_of_mem hc
   rw [hD] at hk
   obtain ⟨c',-,h2,h3⟩:=tw_lt (f:=isDig) (r:=l.drop q0) (k:=k) (lt_of_some hk)
   rw [hk] at h3
   cases h3
   exact h2
  clear hD
  go_upto_region 6 with fail
  go_loopw [6,7,8] (fun vq vu vk wr=>∃ (k:Nat) (U:Int),vq=.int .i64 ((q0+k:Nat):Int)∧vu=.int .u64 U∧vk=.int .i64 (k:Int)∧k≤D.length∧k≤19∧q0+k≤s.size∧U=(decVal (D.take k):Int)∧wr=w0) (fun _ _ vk _=>20 - (intOf vk).toNat)
  case atStart=>exact ⟨0,0,by first | rfl | (simp;done) | (rw [HQ0.out];rfl),rfl,rfl,Nat.zero_le _,by omega,hq0s,rfl,rfl⟩
  case round=>
   obtain ⟨k,U,rfl,rfl,rfl,hkD,hk19,hqs,hU,hw⟩:=hrel
   replace hw:=hw.symm
   subst hw
   obtain ⟨q,hq⟩:∃q,q=q0+k:=⟨_,rfl⟩
   rw [←hq] at hqs ⊢
   have HU:=Hh hU
   have HQ:=Hh hq
   clear hU hq
   have hqz:(0:Int)≤(q:Int):=by omega
   have hqi:(q:Int)≤(s.size:Int):=by omega
   by_cases hk:k<D.length
   ·obtain ⟨c,h1,h2,h3⟩:=tw_lt (f:=isDig) (r:=l.drop q0) (k:=k) (by rw [←HD.out];exact hk)
    rw [List.getElem?_drop,←HQ.out] at h1
    rw [←HD.out] at h3
    have hqn:q<s.size:=by have:=lt_of_some h1;have:=HSZ.out;omega
    have hqj:(q:Int)<(s.size:Int):=by omega
    have hcc:s[q]'hqn=c:=Option.some.inj ((HGET.out q hqn).symm.trans h1)
    obtain ⟨d1,d2⟩:=isDig_ne h2
    have d1':(48:Int)≤(c.toNat:Int):=by omega
    have d2':(c.toNat:Int)≤57:=by omega
    have H3:=Hh (Ai h3 h2)
    clear h1 h2 h3
    by_cases h19:k=19
    ·have e19:((k:Int) == 19)=true:=by rw [h19];rfl
     have HV:Hid (∀y t,¬numberP (l.drop p)=some (y,t)):=Hh fun y t h=>by
      rw [HNP.out] at h
      unfold digsP at h
      rw [←HD.out,if_pos (.inr (by omega))] at h
      cases h
     have f1:=free_six K0.out
     have c1:=six_of K0.out
     clear h19
     go_wp2
     refine ret_node (v:=.int .i64 (-1)) K0.out Tryz.results128 rfl rfl rfl ?_
     exact rleaf_res 0 false 0 ⟨#[]⟩ (-1) B0.out (.inl rfl) (by decide) (by decide) (fun y t h=>absurd (by rw [HL.out];exact h) (HV.out y t))
    ·have e19:((k:Int) == 19)=false:=by rw [beq_eq_false_iff_ne];omega
     have hdv:IntKind.u64.wrap (IntKind.u64.wrap (10 * U)+((c.toNat:Int) - 48))=(decVal (D.take (k+1)):Int):=by
      have hb:decVal (D.take (k+1))<10 ^ (k+1):=by
       have:=decVal_bd (D.take (k+1)) (fun d hd=>(HALL.out d (List.mem_of_mem_take hd)))
       rw [List.length_take,Nat.min_eq_left (by omega)] at this
       exact this
      have hb2:10 ^ (k+1)≤10 ^ 19:=Nat.pow_le_pow_right (by decide) (by omega)
      have hs:decVal (D.take (k+1))=decVal (D.take k) * 10+(c.toNat - 48):=by
       rw [List.take_add_one,H3.out.1]
       exact decVal_snoc _ _
      have hu:=HU.out
      rw [IntKind.wrap_u64,IntKind.wrap_u64]
      have h10:(10:Nat) ^ 19=10000000000000000000:=by decide
      omega
     have HDV:=Hh hdv
     clear hdv
     go_wp2
     go_roundw
     case rel=>exact ⟨k+1,_,by rw [HQ.out];simp [Int.add_assoc],rfl,by simp,by omega,by omega,by have:=HQ.out;omega,HDV.out,by first | exact rfl | trivial⟩
     case measure=>simp [intOf];omega
   ·have hke:k=D.length:=by omega
    have hend:(¬ (q:Int)<(s.size:Int))∨(∃ (h:q<s.size) (c:UInt8),(q:Int)<(s.size:Int)∧s[q]'h=c∧¬ (48:Int)≤(c.toNat:Int))∨(∃ (h:q<s.size) (c:UInt8),(q:Int)<(s.size:Int)∧s[q]'h=c∧(48:Int)≤(c.toNat:Int)∧¬ (c.toNat:Int)≤57):=by
     by_cases hqn:q<s.size
     ·right
      have hc:=HGET.out q hqn
      have hf:=tw_end (f:=isDig) (r:=l.drop q0) (c:=s[q]'hqn) (by rw [←HD.out,←hke,List.getElem?_drop,←HQ.out];exact hc)
      unfold isDig at hf
      by_cases h48:48≤s[q]'hqn
      ·right
       rw [decide_eq_true h48,Bool.true_and,decide_eq_false_iff_not] at hf
       exact ⟨hqn,_,by omega,rfl,by have:=UInt8.le_iff_toNat_le.1 h48;rw [show (48:UInt8).toNat=48 from rfl] at this;omega,by intro h;exact hf (UInt8.le_iff_toNat_le.2 (by rw [show (57:UInt8).toNat=57 from rfl];omega))⟩
      ·left
       exact ⟨hqn,_,by omega,rfl,by intro h;exact h48 (UInt8.le_iff_toNat_le.2 (by rw [show (48:UInt8).toNat=48 from rfl];omega))⟩
     ·exact .inl (by omega)
    have HK:=Hh hke
    have HU0:Hid (0≤U∧U<10000000000000000000):=Hh (by
     have hb:=decVal_bd (D.take k) (fun d hd=>(HALL.out d (List.mem_of_mem_take hd)))
     rw [List.length_take,Nat.min_eq_left (by omega)] at hb
     have hb2:10 ^ k≤10 ^ 19:=Nat.pow_le_pow_right (by decide) (by omega)
     have h10:(10:Nat) ^ 19=10000000000000000000:=by decide
     have:=HU.out
     omega)
    clear hke hk
    rcases hend with hq1 | ⟨hqn,c,hqj,hcc,hc1⟩ | ⟨hqn,c,hqj,hcc,hc1,hc2⟩
    all_goals
     by_cases hz:k=0
     ·have ez:((k:Int) == 0)=true:=by rw [hz];rfl
      have HV:Hid (∀y t,¬numberP (l.drop p)=some (y,t)):=Hh fun y t h=>by
       rw [HNP.out] at h
       unfold digsP at h
       rw [←HD.out,if_pos (.inl (by have:=HK.out;omega))] at h
       cases h
      have f1:=free_six K0.out
      have c1:=six_of K0.out
      clear hz
      go_wp2
      refine ret_node (v:=.int .i64 (-1)) K0.out Tryz.results128 rfl rfl rfl ?_
      exact rleaf_res 0 false 0 ⟨#[]⟩ (-1) B0.out (.inl rfl) (by decide) (by decide) (fun y t h=>absurd (by rw [HL.out];exact h) (HV.out y t))
     ·have ez:((k:Int) == 0)=false:=by rw [beq_eq_false_iff_ne];omega
      by_cases h64:9223372036854775807<U
      ·have HV:Hid (∀y t,¬numberP (l.drop p)=some (y,t)):=Hh fun y t h=>by
        rw [HNP.out] at h
        unfold digsP at h
        have hk':=HK.out
        have hu':=HU.out
        have hu2:U=(decVal D:Int):=by rw [hu',hk',List.take_of_length_le (Lr _)]
        rw [←HD.out,if_neg (by omega),if_pos (by left;exact ⟨rfl,by omega⟩)] at h
        cases h
       have f1:=free_six K0.out
       have c1:=six_of K0.out
       go_wp2
       refine ret_node (v:=.int .i64 (-1)) K0.out Tryz.results128 rfl rfl rfl ?_
       exact rleaf_res 0 false 0 ⟨#[]⟩ (-1) B0.out (.inl rfl) (by decide) (by decide) (fun y t h=>absurd (by rw [HL.out];exact h) (HV.out y t))
      ·have h63:¬9223372036854775808<U:=by omega
       have hz2:¬9223372036854775807<U:=h64
       have hnu:IntKind.i64.wrap U=U:=IntWalk.i64_in _ (by have:=HU0.out;omega)
       have HWI:Hid (wideI U=true):=Hh (by have:=HU0.out;exact wideI_of (by omega) (by omega))
       have HV:Hid (∀y t,numberP (l.drop p)=some (y,t)→(.mk 2 false U ⟨#[]⟩ [] [])=y∧t=l.drop q):=Hh fun y t h=>by
        rw [HNP.out] at h
        unfold digsP at h
        have hk':=HK.out
        have hu':=HU.out
        have hu2:U=(decVal D:Int):=by rw [hu',hk',List.take_of_length_le (Lr _)]
        rw [←HD.out,if_neg (by omega),if_neg (by rintro (⟨-,h⟩ | h) <;> omega),dw_drop,←HD.out,List.drop_drop] at h
        cases h
        refine ⟨?_,by rw [HQ.out,hk']⟩
        rw [hu',hk',List.take_of_length_le (Lr _)]
        first | rfl | simp
       have NU:=Hh (rnumber_any U w0)
       have HQB:Hid ((p:Int)≤(q:Int)∧(q:Int)≤(s.size:Int)∧24+6 * ((0:Nat):Int)≤40 * ((q:Int) - (p:Int))):=Hh (by have:=HQ.out;omega)
       clear hz h64
       go_wp2_with (go_at_call 133;(with_reducible refine (NU.out).mono ?_);rintro e w3 ⟨rfl,hb3⟩;(have k3:=(hb3.block _ (lt_of_block K0.out)).trans K0.out);(have f3:=free_six k3);(have c3:=six_of k3);(have K3:=Hh k3);clear k3)
       refine ret_node (v:=.int .i64 (q:Int)) K3.out Tryz.results128 rfl rfl rfl ?_
       exact rleaf_res 2 false U ⟨#[]⟩ (q:Int) (B0.out.trans (hb3.mono B0.out.size)) (.inr HQB.out) (by decide) HWI.out (fun y t h=>by obtain ⟨h1,h2⟩:=HV.out y t (by rw [HL.out];exact h);exact ⟨h1,by omega,by rw [h2,HL.out];rfl⟩)
end Go.Proofs.YtcklddldejejcaaGreatDoor