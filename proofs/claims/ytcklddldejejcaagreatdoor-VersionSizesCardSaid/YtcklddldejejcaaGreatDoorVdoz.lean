/- Decode of the second serialisation, the document's own: the node of some bytes, or the error. -/
import Derived.Test.YtcklddldejejcaaGreatDoorCwn
import Derived.Test.YtcklddldejejcaaGreatDoorJrde
import Derived.Test.YtcklddldejejcaaGreatDoorJsm
import Derived.Test.YtcklddldejejcaaGreatDoorMen
import Derived.Test.YtcklddldejejcaaGreatDoorMva
import Derived.Test.YtcklddldejejcaaGreatDoorVhx
import GoSem.PinnedTables
import Derived.Lay
import Derived.KernelRfl
import Derived.LaidMore
import Derived.Lib.TrailingZeros
set_option linter.unusedVariables false
set_option linter.unusedSimpArgs false
set_option maxHeartbeats 6400000
set_option maxRecDepth 100000
namespace Go.Proofs.YtcklddldejejcaaGreatDoor
open Go Go.ChangeShapes Go.WideShapes Go.ChangeAt Go.RowKit
theorem cnumsB_down:∀ {d e:Nat} {x:ND},d≤e→numsB e x=true→numsB d x=true
 | 0,_,_,_,_=>rfl
 | d+1,0,_,h,_=>by omega
 | d+1,e+1,x,hd,hn=>by
  rw [numsB_succ,Bool.and_eq_true,List.all_eq_true] at hn ⊢
  exact ⟨hn.1,fun y hy=>cnumsB_down (by omega) (hn.2 y hy)⟩
def CDecIs (s:ByteArray) (x:ND) (er:Int):Prop:=(er=0∧validN 8 x=true∧numsB 8 x=true∧writeC 8 x=s.data.toList∧s.size≤65536)∨(er=4∧x=nd0∧∀y,validN 8 y=true→numsB 8 y=true→s.size≤65536→writeC 8 y ≠ s.data.toList)
def CDecPost (s:ByteArray) (w:World) (e:Ending) (w':World):Prop:=∃ (cs:List Value) (x:ND) (er:Int),e=.returned (.tuple #[.agg cs.toArray,.int .i64 er])∧NodeIn 9 (fun b=>w.heap.size≤b∧b<w'.heap.size) w' cs x∧Below w.heap.size w w'∧CDecIs s x er
theorem cdec_none {s:ByteArray} {w wx:World} (hb:Below w.heap.size w wx) (hV:CDecIs s nd0 4) :
 CDecPost s w (.returned (.tuple #[.agg #[.int .i64 0,.bool false,.int .i64 0,.string ⟨#[]⟩,.slice none 0 0,.slice none 0 0],.int .i64 4])) (set6 wx w.heap.size (.int .i64 0) (.bool false) (.int .i64 0) (.string ⟨#[]⟩) (.slice none 0 0) (.slice none 0 0)):=by
 have hgs:=grown_set6 wx w.heap.size (.int .i64 0) (.bool false) (.int .i64 0) (.string ⟨#[]⟩) (.slice none 0 0) (.slice none 0 0)
 exact ⟨[.int .i64 0,.bool false,.int .i64 0,.string ⟨#[]⟩,.slice none 0 0,.slice none 0 0],nd0,4,rfl,(node_leaf _ _ 0 false 0 ⟨#[]⟩ (by decide)).deeper (by decide),hb.grown hgs hb.size (fun k hk=>by cases hk;exact Lr _),hV⟩
theorem crdec_any (s:ByteArray) (w:World) (hT:Utab w) (hw0:0<w.heap.size):Calls Tryz.prog 44 #[.string s] w (CDecPost s w):=by
 have b0:=(Br w.heap.size w).alloc (o:=.cells #[.int .i64 0,.bool false,.int .i64 0,.string ⟨#[]⟩,.slice none 0 0,.slice none 0 0] 28) (Lr _)
 have hr0:=Hn w (.cells #[.int .i64 0,.bool false,.int .i64 0,.string ⟨#[]⟩,.slice none 0 0,.slice none 0 0] 28)
 by_cases hl:65536<s.size
 ·have hl':(65536:Int)<(s.size:Int):=by omega
  have HV:Hid (CDecIs s nd0 4):=Hh (.inr ⟨rfl,rfl,fun y _ _ h=>absurd h (by omega)⟩)
  have B0:=Hh b0
  have HR:=Hh hr0
  clear hl b0 hr0
  go_enter Tryz.func44,Tryz.ntmps44
  go_upto_region 1 with fail
  generalize w.alloc (.cells #[.int .i64 0,.bool false,.int .i64 0,.string ⟨#[]⟩,.slice none 0 0,.slice none 0 0] 28)=w0 at B0 HR ⊢
  have f1:=free_six HR.out
  have cz1:=six_of HR.out
  go_wp2
  refine ret_node (v:=.int .i64 4) HR.out Tryz.results44 rfl rfl rfl ?_
  exact cdec_none B0.out HV.out
 ·have hl':¬ (65536:Int)<(s.size:Int):=by omega
  have hsl:s.data.toList.length=s.size:=by rw [Array.length_toList];rfl
  have HSL:=Hh hsl
  have HL:=Hh hl
  have HT:=Hh hT
  have hsi:(s.size:Int)≤65536:=by omega
  clear hT hl hsl
  go_enter Tryz.func44,Tryz.ntmps44
  go_upto_region 1 with fail
  generalize w.alloc (.cells #[.int .i64 0,.bool false,.int .i64 0,.string ⟨#[]⟩,.slice none 0 0,.slice none 0 0] 28)=w0 at b0 hr0 ⊢
  have B0:=Hh b0
  have HR:=Hh hr0
  have VC:=cvalue_any 8 (by decide) s 0 w0 (by have:=b0.size;omega) (Nat.zero_le _) (by have:=HL.out;omega)
  rw [show ((8:Nat):Int)=8 from rfl,show ((0:Nat):Int)=0 from rfl] at VC
  have VV:=Hh VC
  clear b0 hr0 VC
  go_upto_region 4 with ((with_reducible refine (VV.out).mono ?_);rintro e5 w5 ⟨cs,x,q,rfl,hnode,hb5,hq5,hf5,hv5⟩;go_loud ((obtain ⟨a1,l1,c1,a2,l2,c2,hcs⟩:=hnode.slices);subst hcs))
  have b6:=(Br w5.heap.size w5).alloc (o:=.cells #[.int .i64 x.kind,.bool x.bool,.int .i64 x.num,.string x.text,.slice a1 l1 c1,.slice a2 l2 c2] 28) (Lr _)
  have k6:=Hn w5 (.cells #[.int .i64 x.kind,.bool x.bool,.int .i64 x.num,.string x.text,.slice a1 l1 c1,.slice a2 l2 c2] 28)
  have hnd6:=hnode.same fun b hb=>b6.block b hb.2
  have hB5:=B0.out.trans (hb5.mono B0.out.size)
  have hB6:=hB5.trans (b6.mono hB5.size)
  have hr6:=(b6.block _ (by have:=hb5.size;have:=lt_of_block HR.out;omega)).trans ((hb5.block _ (lt_of_block HR.out)).trans HR.out)
  have hz5:w.heap.size<w5.heap.size:=by have:=hb5.size;have:=lt_of_block HR.out;omega
  generalize w5.alloc (.cells #[.int .i64 x.kind,.bool x.bool,.int .i64 x.num,.string x.text,.slice a1 l1 c1,.slice a2 l2 c2] 28)=w6 at b6 k6 hnd6 hB6 hr6 ⊢
  obtain ⟨g6,hg6⟩:∃g,g=w5.heap.size:=⟨_,rfl⟩
  rw [←hg6] at k6 hz5 ⊢
  have HZ5:=Hh (Ai hz5 (Ai hg6 b6.size))
  have HB6:=Hh hB6
  have HR6:=Hh hr6
  have HK6:=Hh k6
  have HND:=Hh (Ai hnd6 B0.out.size)
  have HQ:=Hh hq5
  have HF:=Hh hf5
  have hv8:∀y,validN 8 y=true→numsB 8 y=true→writeC 8 y=s.data.toList→x=y∧(s.size:Int)≤q:=fun y h1 h2 h3=>by
   obtain ⟨e1,e2,e3⟩:=hv5 y [] ⟨h1,h2,by rw [List.drop_zero,List.append_nil,h3]⟩
   refine ⟨e1,?_⟩
   have:=congrArg List.length e3
   rw [List.length_drop,HSL.out] at this
   simp at this
   omega
  have HV8:=Hh hv8
  have hck:=six_of k6
  have VA:=Hh (risvalid_any _ x w6 hnd6 (fun b hb=>Ll hb.2 (by have:=b6.size;omega)) hf5.1 (HT.out.below hB6))
  clear hg6 k6 hnd6 hB6 hr6 hv8 hv5 hnode hb5 hf5 hq5 hB5 VV b6 hz5
  by_cases hq:q=(s.size:Int)
  ·subst hq
   have hqq:((s.size:Int) != (s.size:Int))=false:=by simp
   cases hv:validN 8 x with
   | false=>
    rw [hv] at VA
    have HV:Hid (CDecIs s nd0 4):=Hh (.inr ⟨rfl,rfl,fun y h1 h2 h3 h4=>by
     obtain ⟨rfl,-⟩:=HV8.out y h1 h2 h4
     rw [hv] at h1;cases h1⟩)
    clear hv
    go_upto_region 5 with ((with_reducible refine (VA.out).mono ?_);rintro e7 w7 ⟨rfl,hb7⟩)
    have hB7:=HB6.out.trans (hb7.mono HB6.out.size)
    have hr7:=(hb7.block _ (lt_of_block HR6.out)).trans HR6.out
    have f1:=free_six hr7
    have cz1:=six_of hr7
    go_wp2
    refine ret_node (v:=.int .i64 4) hr7 Tryz.results44 rfl rfl rfl ?_
    exact cdec_none hB7 HV.out
   | true=>
    rw [hv] at VA
    have hnu:numsB 8 x=true:=cnumsB_down (by decide) HF.out.2
    have hcost:(writeC 8 x).length≤35184372088832:=by
     have h1:=writeC_cost 8 x hv
     have h2:=costN_same (e:=8) (d:=9) (by decide) hv
     rcases HQ.out with h | ⟨-,-,h⟩
     ·omega
     ·have h:(costN (8+1) x:Int)+8≤40 * ((s.size:Int) - 0):=h
      rw [show (8:Nat)+1=9 from rfl,h2] at h
      omega
    have WR:=Hh (fun wx (hb:Below w6.heap.size w6 wx)=>rcwrite_any 8 9 _ _ x wx (HND.out.1.same fun b hb'=>hb.block b (Ll hb'.2 (by have:=HZ5.out;omega))) (fun b hb'=>Ll hb'.2 (by have:=HZ5.out;have:=hb.size;omega)) hv hnu hcost)
    have CK:=Hh (fun wx (hb:Below w6.heap.size w6 wx)=>six_of ((hb.block _ (lt_of_block HK6.out)).trans HK6.out))
    obtain ⟨t,ht⟩:∃t:ByteArray,t=bC (writeC 8 x):=⟨_,rfl⟩
    rw [←ht] at WR
    have htl:t.data.toList=writeC 8 x:=by rw [ht,bC_data]
    have HTL:=Hh htl
    have HVN:=Hh (Ai hv hnu)
    clear ht hv hnu hcost htl
    by_cases hts:t=s
    ·have tts:(t.toList == s.toList)=true:=str_beq hts
     have tts2:(t.toList != s.toList)=false:=by rw [bne,tts];rfl
     have HV:Hid (CDecIs s x 0):=Hh (.inl ⟨rfl,HVN.out.1,HVN.out.2,by rw [←HTL.out,hts],by have:=HL.out;omega⟩)
     clear hts
     go_upto_region 6 with (first
      | (go_at_call 61;(with_reducible refine (VA.out).mono ?_);rintro e7 w7 ⟨rfl,hb7⟩;(have ck7:=CK.out _ hb7))
      | (go_at_call 84;(with_reducible refine (WR.out _ hb7).mono ?_);rintro e8 w8 ⟨rfl,hb8⟩))
     have hb68:=hb7.trans (hb8.mono hb7.size)
     have hB8:=HB6.out.trans (hb68.mono HB6.out.size)
     have hr8:=(hb68.block _ (lt_of_block HR6.out)).trans HR6.out
     have ck8:=CK.out _ hb68
     have HR8:=Hh hr8
     have HB8:=Hh hB8
     have HB68:=Hh hb68
     have f1:=free_six hr8
     have cz1:=six_of hr8
     clear hb68 hB8 hr8 hb7 hb8 ck7 hck
     go_wp2
     refine ret_node (v:=.int .i64 0) HR8.out Tryz.results44 rfl rfl rfl ?_
     have hgs:=grown_set6 w8 w.heap.size (.int .i64 x.kind) (.bool x.bool) (.int .i64 x.num) (.string x.text) (.slice a1 l1 c1) (.slice a2 l2 c2)
     refine ⟨[.int .i64 x.kind,.bool x.bool,.int .i64 x.num,.string x.text,.slice a1 l1 c1,.slice a2 l2 c2],x,0,rfl,?_,HB8.out.grown hgs HB8.out.size (fun k hk=>by cases hk;exact Lr _),HV.out⟩
     have hz:=HZ5.out
     have hzb:=HB68.out.size
     have hr:=lt_of_block HR.out
     exact ((HND.out.1.same fun b hb=>HB68.out.block b (by omega)).same fun b hb=>hgs.block b (by omega) (by intro e;have:=Option.some.inj e;omega)).mono fun b hb=>⟨by have:=HND.out.2;omega,Ll (by omega) hgs.size⟩
    ·have tts:(t.toList == s.toList)=false:=str_bne hts
     have tts2:(t.toList != s.toList)=true:=by rw [bne,tts];rfl
     have HV:Hid (CDecIs s nd0 4):=Hh (.inr ⟨rfl,rfl,fun y h1 h2 h3 h4=>by
      obtain ⟨rfl,-⟩:=HV8.out y h1 h2 h4
      apply hts
      have e1:=HTL.out.trans h4
      exact data_inj e1⟩)
     clear hts
     go_upto_region 5 with (first
      | (go_at_call 61;(with_reducible refine (VA.out).mono ?_);rintro e7 w7 ⟨rfl,hb7⟩;(have ck7:=CK.out _ hb7))
      | (go_at_call 84;(with_reducible refine (WR.out _ hb7).mono ?_);rintro e8 w8 ⟨rfl,hb8⟩))
     have hb68:=hb7.trans (hb8.mono hb7.size)
     have hB8:=HB6.out.trans (hb68.mono HB6.out.size)
     have hr8:=(hb68.block _ (lt_of_block HR6.out)).trans HR6.out
     have f1:=free_six hr8
     have cz1:=six_of hr8
     go_wp2
     refine ret_node (v:=.int .i64 4) hr8 Tryz.results44 rfl rfl rfl ?_
     exact cdec_none hB8 HV.out
  ·have hqq:(q != (s.size:Int))=true:=by simp [hq]
   have hqq2:(q == (s.size:Int))=false:=by simp [hq]
   have HV:Hid (CDecIs s nd0 4):=Hh (.inr ⟨rfl,rfl,fun y h1 h2 h3 h4=>by
    obtain ⟨-,h5⟩:=HV8.out y h1 h2 h4
    rcases HQ.out with h | ⟨-,h,-⟩
    ·omega
    ·exact hq (by omega)⟩)
   clear hq
   have f1:=free_six HR6.out
   have cz1:=six_of HR6.out
   go_wp2
   refine ret_node (v:=.int .i64 4) HR6.out Tryz.results44 rfl rfl rfl ?_
   exact cdec_none HB6.out HV.out
theorem cenc_any {D:Nat} {S:Nat→Prop} (cs:List Value) (x:ND) (w:World) (h:NodeIn D S w cs x) (hS:∀b,S b→b<w.heap.size) (hl:lowV D x) (hw:validN 8 x=true→numsB 8 x=true) (hT:Utab w):Calls Tryz.prog 171 #[.agg cs.toArray] w (CEncPost x w):=by
 obtain ⟨a1,l1,c1,a2,l2,c2,rfl⟩:=h.slices
 have b1:=(Br w.heap.size w).alloc (o:=.cells #[.int .i64 x.kind,.bool x.bool,.int .i64 x.num,.string x.text,.slice a1 l1 c1,.slice a2 l2 c2] 28) (Lr _)
 have hr1:=Hn w (.cells #[.int .i64 x.kind,.bool x.bool,.int .i64 x.num,.string x.text,.slice a1 l1 c1,.slice a2 l2 c2] 28)
 obtain ⟨w1,hw1⟩:∃W,W=w.alloc (.cells #[.int .i64 x.kind,.bool x.bool,.int .i64 x.num,.string x.text,.slice a1 l1 c1,.slice a2 l2 c2] 28):=⟨_,rfl⟩
 rw [←hw1] at b1 hr1
 have ck:=six_of hr1
 have V:=Hh (isvalidV_any _ x w1 (h.same fun b hb=>b1.block b (hS b hb)) (fun b hb=>Ll (hS b hb) b1.size) hl (hT.below b1))
 have B1:=Hh b1
 have R1:=Hh hr1
 have HN:=Hh h
 have HS:=Hh hS
 have HW:=Hh hw
 clear h hS hl hw hT b1 hr1
 cases hv:validN 8 x with
 | false=>
  rw [hv] at V
  obtain ⟨e1,e2⟩:=cse_bad hv
  have HE:=Hh (Ai e1 e2)
  clear hv e1 e2
  go_enter Tryz.func171,Tryz.ntmps171
  go_upto_region 1 with fail
  rw [←hw1]
  clear hw1
  go_wp2_with (go_at_call 38;(with_reducible refine (V.out).mono ?_);rintro e w2 ⟨rfl,hb2⟩)
  go_ret2
  exact ⟨by rw [HE.out.1,HE.out.2];rfl,B1.out.trans (hb2.mono B1.out.size)⟩
 | true=>
  rw [hv] at V
  have hnu:=HW.out hv
  have HV:=Hh hv
  have HNU:=Hh hnu
  clear hv hnu
  go_enter Tryz.func171,Tryz.ntmps171
  go_upto_region 1 with fail
  rw [←hw1]
  clear hw1
  go_upto_region 4 with ((with_reducible refine (V.out).mono ?_);rintro e w2 ⟨rfl,hb2⟩)
  have b3:=(Br w2.heap.size w2).alloc (o:=.cells #[.slice none 0 0] 213) (Lr _)
  have st3:=WSc.fresh (TW:=213) (TB:=5) w2
  have hB2:=B1.out.trans (hb2.mono B1.out.size)
  have hB3:=hB2.trans (b3.mono hB2.size)
  have hz3:(w2.alloc (.cells #[.slice none 0 0] 213)).heap.size=w2.heap.size+1:=by simp
  have hr3:=(b3.block _ (Ll (lt_of_block R1.out) hb2.size)).trans ((hb2.block _ (lt_of_block R1.out)).trans R1.out)
  generalize w2.alloc (.cells #[.slice none 0 0] 213)=w3 at b3 st3 hB3 hz3 hr3 ⊢
  obtain ⟨g,hg⟩:∃g,g=w2.heap.size:=⟨_,rfl⟩
  have hwg:w.heap.size≤g:=by rw [hg];exact hB2.size
  have ck3:=six_of hr3
  have WN:=Hh (wnode_any 8 D S _ x w3 (g+1) g [] (by rw [hg];exact st3) (by omega) (Nat.zero_le _) (HN.out.same fun b hb=>hB3.block b (HS.out b hb)) (fun b hb=>Ll (HS.out b hb) hwg) HV.out HNU.out)
  rw [←hg]
  have HB3:=Hh hB3
  clear b3 st3 hz3 hr3 hg hB2 hB3 hb2 ck
  go_upto_region 5 with ((with_reducible refine (WN.out).mono ?_);rintro e w5 ⟨rfl,l5,hst5,hout5,hlen5,hfr5⟩)
  have EX:=Hh (cexc_any w5 hst5)
  have hB5:=HB3.out.trans (hfr5.1.mono hwg)
  have HB5:=Hh hB5
  have HO5:=Hh hout5
  by_cases hov:65536<l5.length
  ·obtain ⟨e1,e2⟩:=cse_long HV.out (by have:=hout5.over hov;simpa using this)
   have HE:=Hh (Ai e1 e2)
   rw [decide_eq_true hov] at EX
   clear hst5 hfr5 e1 e2 hB5 hout5 hov
   go_wp2_with (go_at_call 199;(with_reducible refine (EX.out).mono ?_);rintro e w6 ⟨rfl,hww⟩;(replace hww:=hww.symm);subst hww)
   go_ret2
   exact ⟨by rw [HE.out.1,HE.out.2];rfl,HB5.out⟩
  ·have hfit:=hout5.fits hov
   rw [List.nil_append] at hfit
   obtain ⟨e1,e2⟩:=cse_good HV.out (by rw [←hfit];exact hov)
   rw [←hfit] at e1
   have HE:=Hh (Ai e1 e2)
   rw [decide_eq_false hov] at EX
   obtain ⟨v5,k1,k2,-⟩:=hst5
   have c5:w5.cell? ⟨g,0,none⟩=some v5:=cell_blk k1 rfl
   obtain ⟨ao,cap,rfl,-,-⟩:=wown_form k2
   have hcv:=conv_owns (P:=Tryz.prog) w5 73 9 5 (g+1) l5.length _ l5 k2 Tryz.underlying73 Tryz.underlying5 Tryz.underlying9
   clear k1 k2 hfr5 e1 e2 hfit hB5 hout5 hov
   go_wp2_with (go_at_call 199;(with_reducible refine (EX.out).mono ?_);rintro e w6 ⟨rfl,hww⟩;(replace hww:=hww.symm);subst hww)
   go_ret2
   exact ⟨by rw [HE.out.1,HE.out.2];rfl,HB5.out⟩
theorem mnumsB_down:∀ {d e:Nat} {x:ND},d≤e→numsB e x=true→numsB d x=true
 | 0,_,_,_,_=>rfl
 | d+1,0,_,h,_=>by omega
 | d+1,e+1,x,hd,hn=>by
  rw [numsB_succ,Bool.and_eq_true,List.all_eq_true] at hn ⊢
  exact ⟨hn.1,fun y hy=>mnumsB_down (by omega) (hn.2 y hy)⟩
def MDecIs (s:ByteArray) (x:ND) (er:Int):Prop:=(er=0∧validN 8 x=true∧numsB 8 x=true∧writeP 8 x=s.data.toList∧s.size≤65536)∨(er=4∧x=nd0∧∀y,validN 8 y=true→numsB 8 y=true→s.size≤65536→writeP 8 y ≠ s.data.toList)
def MDecPost (s:ByteArray) (w:World) (e:Ending) (w':World):Prop:=∃ (cs:List Value) (x:ND) (er:Int),e=.returned (.tuple #[.agg cs.toArray,.int .i64 er])∧NodeIn 9 (fun b=>w.heap.size≤b∧b<w'.heap.size) w' cs x∧Below w.heap.size w w'∧MDecIs s x er
theorem mdec_none {s:ByteArray} {w wx:World} (hb:Below w.heap.size w wx) (hV:MDecIs s nd0 4) :
 MDecPost s w (.returned (.tuple #[.agg #[.int .i64 0,.bool false,.int .i64 0,.string ⟨#[]⟩,.slice none 0 0,.slice none 0 0],.int .i64 4])) (set6 wx w.heap.size (.int .i64 0) (.bool false) (.int .i64 0) (.string ⟨#[]⟩) (.slice none 0 0) (.slice none 0 0)):=by
 have hgs:=grown_set6 wx w.heap.size (.int .i64 0) (.bool false) (.int .i64 0) (.string ⟨#[]⟩) (.slice none 0 0) (.slice none 0 0)
 exact ⟨[.int .i64 0,.bool false,.int .i64 0,.string ⟨#[]⟩,.slice none 0 0,.slice none 0 0],nd0,4,rfl,(node_leaf _ _ 0 false 0 ⟨#[]⟩ (by decide)).deeper (by decide),hb.grown hgs hb.size (fun k hk=>by cases hk;exact Lr _),hV⟩
theorem mrdec_any (s:ByteArray) (w:World) (hT:Utab w) (hw0:0<w.heap.size):Calls Tryz.prog 45 #[.string s] w (MDecPost s w):=by
 have b0:=(Br w.heap.size w).alloc (o:=.cells #[.int .i64 0,.bool false,.int .i64 0,.string ⟨#[]⟩,.slice none 0 0,.slice none 0 0] 28) (Lr _)
 have hr0:=Hn w (.cells #[.int .i64 0,.bool false,.int .i64 0,.string ⟨#[]⟩,.slice none 0 0,.slice none 0 0] 28)
 by_cases hl:65536<s.size
 ·have hl':(65536:Int)<(s.size:Int):=by omega
  have HV:Hid (MDecIs s nd0 4):=Hh (.inr ⟨rfl,rfl,fun y _ _ h=>absurd h (by omega)⟩)
  have B0:=Hh b0
  have HR:=Hh hr0
  clear hl b0 hr0
  go_enter Tryz.func45,Tryz.ntmps45
  go_upto_region 1 with fail
  generalize w.alloc (.cells #[.int .i64 0,.bool false,.int .i64 0,.string ⟨#[]⟩,.slice none 0 0,.slice none 0 0] 28)=w0 at B0 HR ⊢
  have f1:=free_six HR.out
  have cz1:=six_of HR.out
  go_wp2
  refine ret_node (v:=.int .i64 4) HR.out Tryz.results45 rfl rfl rfl ?_
  exact mdec_none B0.out HV.out
 ·have hl':¬ (65536:Int)<(s.size:Int):=by omega
  have hsl:s.data.toList.length=s.size:=by rw [Array.length_toList];rfl
  have HSL:=Hh hsl
  have HL:=Hh hl
  have HT:=Hh hT
  have hsi:(s.size:Int)≤65536:=by omega
  clear hT hl hsl
  go_enter Tryz.func45,Tryz.ntmps45
  go_upto_region 1 with fail
  generalize w.alloc (.cells #[.int .i64 0,.bool false,.int .i64 0,.string ⟨#[]⟩,.slice none 0 0,.slice none 0 0] 28)=w0 at b0 hr0 ⊢
  have B0:=Hh b0
  have HR:=Hh hr0
  have VC:=rmvalue_any 8 (by decide) s 0 w0 (by have:=b0.size;omega) (Nat.zero_le _) (by have:=HL.out;omega)
  rw [show ((8:Nat):Int)=8 from rfl,show ((0:Nat):Int)=0 from rfl] at VC
  have VV:=Hh VC
  clear b0 hr0 VC
  go_upto_region 4 with ((with_reducible refine (VV.out).mono ?_);rintro e5 w5 ⟨cs,x,q,rfl,hnode,hb5,hq5,hf5,hv5⟩;go_loud ((obtain ⟨a1,l1,c1,a2,l2,c2,hcs⟩:=hnode.slices);subst hcs))
  have b6:=(Br w5.heap.size w5).alloc (o:=.cells #[.int .i64 x.kind,.bool x.bool,.int .i64 x.num,.string x.text,.slice a1 l1 c1,.slice a2 l2 c2] 28) (Lr _)
  have k6:=Hn w5 (.cells #[.int .i64 x.kind,.bool x.bool,.int .i64 x.num,.string x.text,.slice a1 l1 c1,.slice a2 l2 c2] 28)
  have hnd6:=hnode.same fun b hb=>b6.block b hb.2
  have hB5:=B0.out.trans (hb5.mono B0.out.size)
  have hB6:=hB5.trans (b6.mono hB5.size)
  have hr6:=(b6.block _ (by have:=hb5.size;have:=lt_of_block HR.out;omega)).trans ((hb5.block _ (lt_of_block HR.out)).trans HR.out)
  have hz5:w.heap.size<w5.heap.size:=by have:=hb5.size;have:=lt_of_block HR.out;omega
  generalize w5.alloc (.cells #[.int .i64 x.kind,.bool x.bool,.int .i64 x.num,.string x.text,.slice a1 l1 c1,.slice a2 l2 c2] 28)=w6 at b6 k6 hnd6 hB6 hr6 ⊢
  obtain ⟨g6,hg6⟩:∃g,g=w5.heap.size:=⟨_,rfl⟩
  rw [←hg6] at k6 hz5 ⊢
  have HZ5:=Hh (Ai hz5 (Ai hg6 b6.size))
  have HB6:=Hh hB6
  have HR6:=Hh hr6
  have HK6:=Hh k6
  have HND:=Hh (Ai hnd6 B0.out.size)
  have HQ:=Hh hq5
  have HF:=Hh hf5
  have hv8:∀y,validN 8 y=true→numsB 8 y=true→writeP 8 y=s.data.toList→x=y∧(s.size:Int)≤q:=fun y h1 h2 h3=>by
   obtain ⟨e1,e2,e3⟩:=hv5 y [] ⟨h1,h2,by rw [List.drop_zero,List.append_nil,h3]⟩
   refine ⟨e1,?_⟩
   have:=congrArg List.length e3
   rw [List.length_drop,HSL.out] at this
   simp at this
   omega
  have HV8:=Hh hv8
  have hck:=six_of k6
  have VA:=Hh (risvalid_any _ x w6 hnd6 (fun b hb=>Ll hb.2 (by have:=b6.size;omega)) hf5.1 (HT.out.below hB6))
  clear hg6 k6 hnd6 hB6 hr6 hv8 hv5 hnode hb5 hf5 hq5 hB5 VV b6 hz5
  by_cases hq:q=(s.size:Int)
  ·subst hq
   have hqq:((s.size:Int) != (s.size:Int))=false:=by simp
   cases hv:validN 8 x with
   | false=>
    rw [hv] at VA
    have HV:Hid (MDecIs s nd0 4):=Hh (.inr ⟨rfl,rfl,fun y h1 h2 h3 h4=>by
     obtain ⟨rfl,-⟩:=HV8.out y h1 h2 h4
     rw [hv] at h1;cases h1⟩)
    clear hv
    go_upto_region 5 with ((with_reducible refine (VA.out).mono ?_);rintro e7 w7 ⟨rfl,hb7⟩)
    have hB7:=HB6.out.trans (hb7.mono HB6.out.size)
    have hr7:=(hb7.block _ (lt_of_block HR6.out)).trans HR6.out
    have f1:=free_six hr7
    have cz1:=six_of hr7
    go_wp2
    refine ret_node (v:=.int .i64 4) hr7 Tryz.results45 rfl rfl rfl ?_
    exact mdec_none hB7 HV.out
   | true=>
    rw [hv] at VA
    have hnu:numsB 8 x=true:=mnumsB_down (by decide) HF.out.2
    have hcost:(writeP 8 x).length≤35184372088832:=by
     have h1:=writeP_cost 8 x hv
     have h2:=costN_same (e:=8) (d:=9) (by decide) hv
     rcases HQ.out with h | ⟨-,-,h⟩
     ·omega
     ·have h:(costN (8+1) x:Int)+8≤40 * ((s.size:Int) - 0):=h
      rw [show (8:Nat)+1=9 from rfl,h2] at h
      omega
    have WR:=Hh (fun wx (hb:Below w6.heap.size w6 wx)=>rpwrite_any 8 9 _ _ x wx (HND.out.1.same fun b hb'=>hb.block b (Ll hb'.2 (by have:=HZ5.out;omega))) (fun b hb'=>Ll hb'.2 (by have:=HZ5.out;have:=hb.size;omega)) hv hnu hcost)
    have CK:=Hh (fun wx (hb:Below w6.heap.size w6 wx)=>six_of ((hb.block _ (lt_of_block HK6.out)).trans HK6.out))
    obtain ⟨t,ht⟩:∃t:ByteArray,t=bC (writeP 8 x):=⟨_,rfl⟩
    rw [←ht] at WR
    have htl:t.data.toList=writeP 8 x:=by rw [ht,bC_data]
    have HTL:=Hh htl
    have HVN:=Hh (Ai hv hnu)
    clear ht hv hnu hcost htl
    by_cases hts:t=s
    ·have tts:(t.toList == s.toList)=true:=str_beq hts
     have tts2:(t.toList != s.toList)=false:=by rw [bne,tts];rfl
     have HV:Hid (MDecIs s x 0):=Hh (.inl ⟨rfl,HVN.out.1,HVN.out.2,by rw [←HTL.out,hts],by have:=HL.out;omega⟩)
     clear hts
     go_upto_region 6 with (first
      | (go_at_call 61;(with_reducible refine (VA.out).mono ?_);rintro e7 w7 ⟨rfl,hb7⟩;(have ck7:=CK.out _ hb7))
      | (go_at_call 86;(with_reducible refine (WR.out _ hb7).mono ?_);rintro e8 w8 ⟨rfl,hb8⟩))
     have hb68:=hb7.trans (hb8.mono hb7.size)
     have hB8:=HB6.out.trans (hb68.mono HB6.out.size)
     have hr8:=(hb68.block _ (lt_of_block HR6.out)).trans HR6.out
     have ck8:=CK.out _ hb68
     have HR8:=Hh hr8
     have HB8:=Hh hB8
     have HB68:=Hh hb68
     have f1:=free_six hr8
     have cz1:=six_of hr8
     clear hb68 hB8 hr8 hb7 hb8 ck7 hck
     go_wp2
     refine ret_node (v:=.int .i64 0) HR8.out Tryz.results45 rfl rfl rfl ?_
     have hgs:=grown_set6 w8 w.heap.size (.int .i64 x.kind) (.bool x.bool) (.int .i64 x.num) (.string x.text) (.slice a1 l1 c1) (.slice a2 l2 c2)
     refine ⟨[.int .i64 x.kind,.bool x.bool,.int .i64 x.num,.string x.text,.slice a1 l1 c1,.slice a2 l2 c2],x,0,rfl,?_,HB8.out.grown hgs HB8.out.size (fun k hk=>by cases hk;exact Lr _),HV.out⟩
     have hz:=HZ5.out
     have hzb:=HB68.out.size
     have hr:=lt_of_block HR.out
     exact ((HND.out.1.same fun b hb=>HB68.out.block b (by omega)).same fun b hb=>hgs.block b (by omega) (by intro e;have:=Option.some.inj e;omega)).mono fun b hb=>⟨by have:=HND.out.2;omega,Ll (by omega) hgs.size⟩
    ·have tts:(t.toList == s.toList)=false:=str_bne hts
     have tts2:(t.toList != s.toList)=true:=by rw [bne,tts];rfl
     have HV:Hid (MDecIs s nd0 4):=Hh (.inr ⟨rfl,rfl,fun y h1 h2 h3 h4=>by
      obtain ⟨rfl,-⟩:=HV8.out y h1 h2 h4
      apply hts
      have e1:=HTL.out.trans h4
      exact data_inj e1⟩)
     clear hts
     go_upto_region 5 with (first
      | (go_at_call 61;(with_reducible refine (VA.out).mono ?_);rintro e7 w7 ⟨rfl,hb7⟩;(have ck7:=CK.out _ hb7))
      | (go_at_call 86;(with_reducible refine (WR.out _ hb7).mono ?_);rintro e8 w8 ⟨rfl,hb8⟩))
     have hb68:=hb7.trans (hb8.mono hb7.size)
     have hB8:=HB6.out.trans (hb68.mono HB6.out.size)
     have hr8:=(hb68.block _ (lt_of_block HR6.out)).trans HR6.out
     have f1:=free_six hr8
     have cz1:=six_of hr8
     go_wp2
     refine ret_node (v:=.int .i64 4) hr8 Tryz.results45 rfl rfl rfl ?_
     exact mdec_none hB8 HV.out
  ·have hqq:(q != (s.size:Int))=true:=by simp [hq]
   have hqq2:(q == (s.size:Int))=false:=by simp [hq]
   have HV:Hid (MDecIs s nd0 4):=Hh (.inr ⟨rfl,rfl,fun y h1 h2 h3 h4=>by
    obtain ⟨-,h5⟩:=HV8.out y h1 h2 h4
    rcases HQ.out with h | ⟨-,h,-⟩
    ·omega
    ·exact hq (by omega)⟩)
   clear hq
   have f1:=free_six HR6.out
   have cz1:=six_of HR6.out
   go_wp2
   refine ret_node (v:=.int .i64 4) HR6.out Tryz.results45 rfl rfl rfl ?_
   exact mdec_none HB6.out HV.out
def foS (k:Int) (x:ND):ByteArray:=if k=1 then jsS x else if k=2 then csS x else if k=3 then mpS x else ⟨#[]⟩
def foE (k:Int) (x:ND):Int:=if k=1 then jsE x else if k=2 then csE x else if k=3 then mpE x else 2
def FoIs (k:Int) (s:ByteArray) (x:ND) (er:Int):Prop:=(k=1∧DecIs s x er)∨(k=2∧CDecIs s x er)∨(k=3∧MDecIs s x er)∨((k<1∨3<k)∧x=nd0∧er=2)
structure Ftab (w:World):Prop where
 u:Utab w
 i:Itab w
 e:EVars w
 s:Scl w
theorem Ftab.below {w w':World} (h:Ftab w) (hb:Below w.heap.size w w'):Ftab w':=⟨h.u.below hb,h.i.below hb,h.e.below hb,h.s.to hb⟩
theorem Ftab.p {w:World} (h:Ftab w):Ptab w:=⟨h.u,h.s⟩
theorem fo_split (k:Int):k=1∨k=2∨k=3∨(k<1∨3<k):=by omega
theorem foS_none {k:Int} (x:ND) (h:k<1∨3<k):foS k x=⟨#[]⟩∧foE k x=2:=by
 unfold foS foE
 exact ⟨by rw [if_neg (by omega),if_neg (by omega),if_neg (by omega)],by rw [if_neg (by omega),if_neg (by omega),if_neg (by omega)]⟩
theorem encas_any {D:Nat} {S:Nat→Prop} (k:Int) (cs:List Value) (x:ND) (w:World) (h:NodeIn D S w cs x) (hS:∀b,S b→b<w.heap.size) (hl:lowV D x) (hw:validN 8 x=true→numsB 8 x=true) (hT:Ftab w):Calls Tryz.prog 39 #[.int .i64 k,.agg cs.toArray] w (EncW (foS k x) (foE k x) w):=by
 have h':∀wx,Below w.heap.size w wx→NodeIn D S wx cs x:=fun wx hb=>h.same fun b q=>hb.block b (hS b q)
 have hS':∀wx,Below w.heap.size w wx→∀b,S b→b<wx.heap.size:=fun wx hb b q=>Ll (hS b q) hb.size
 rcases fo_split k with rfl | rfl | rfl | hk
 ·exact encas_at 1 _ _ _ cs x w _ _ h (.inl rfl) ⟨rfl,rfl⟩ fun wx hb=>jenc_any cs x wx (h' wx hb) (hS' wx hb) hl hw (hT.below hb).u (hT.below hb).i
 ·exact encas_at 2 _ _ _ cs x w _ _ h (.inr (.inl rfl)) ⟨rfl,rfl⟩ fun wx hb=>cenc_any cs x wx (h' wx hb) (hS' wx hb) hl hw (hT.below hb).u
 ·exact encas_at 3 _ _ _ cs x w _ _ h (.inr (.inr rfl)) ⟨rfl,rfl⟩ fun wx hb=>mpenc_any cs x wx (h' wx hb) (hS' wx hb) hl hw (hT.below hb).p
 ·rw [(foS_none x hk).1,(foS_none x hk).2]
  exact encas_no k cs x w h hk
end Go.Proofs.YtcklddldejejcaaGreatDoor
namespace Go.Proofs.YtcklddldejejcaaGreatDoor
open Go Go.RowKit Go.Shelf Go.Lib
def scI (i:Nat):DataW Unit:=if (scR i).widths.length=0 then .nil else .slice ((scR i).widths.map fun z=>.lit (.int .i64 z)) []
def scD:List (DataW Unit):=(List.range 7).map fun i=>.agg [.lit (.int .i64 (scR i).kind),.lit (.int .i64 (scR i).least),.lit (.int .i64 (scR i).count),.lit (.int .u8 (scR i).first),.lit (.int .u8 (scR i).wide),scI i]
theorem laid_isC:(Rows.laid_keyevent_pack_scales:DataW Unit)=.agg scD:=by kernel_rfl
theorem mcells_scl:Tryz.prog.cellsOf 275=6:=by kernel_rfl
theorem mcells_int:Tryz.prog.cellsOf 3=1:=by kernel_rfl
theorem mcells_u8:Tryz.prog.cellsOf 5=1:=by kernel_rfl
theorem mcells_ints:Tryz.prog.cellsOf 22=1:=by kernel_rfl
theorem msix_list {α:Type} {l:List α} (h:l.length=6):∃a b c d e f,l=[a,b,c,d,e,f]:=by
 match l,h with
 | [a,b,c,d,e,f],_=>exact ⟨a,b,c,d,e,f,rfl⟩
theorem mints_of_reads {W:World} {fuel:Nat} {v:Value} {l:List Int} {p:List MemPlace} (h:DataW.trod (fun _=>()) Tryz.prog W 0 (fun _=>true) false fuel 22 [v]=some (.slice (l.map fun z=>(.lit (.int .i64 z):DataW Unit)) [],p)) (hl:0<l.length):IntsAt W.heap.size W v l:=by
 obtain ⟨a,cap,hv,hle,hall⟩:=open_row Tryz.underlying22 mcells_int h
 rw [List.length_map] at hv hle
 cases hv
 have hc:∀i,i<l.length→W.cell? (a.add i)=some (.int .i64 (l.getD i 0)):=by
  intro i hi
  obtain ⟨v,n,q,hcell,htr⟩:=hall i (.lit (.int .i64 (l.getD i 0))) (by rw [List.getElem?_map,List.getElem?_eq_getElem hi];simp [List.getD,List.getElem?_eq_getElem hi])
  obtain ⟨z,e1,f1,_⟩:=DataW.trod_int Tryz.underlying3 htr
  cases e1
  simp only [Prod.mk.injEq,DataW.lit.injEq,Lit.int.injEq,true_and] at f1
  rw [hcell,←f1.1]
 have hc0:=hc 0 hl
 obtain ⟨b,off,spot⟩:=a
 have hspot:spot=none:=by simpa [Addr.add] using World.cell?_spot hc0
 subst hspot
 refine ⟨_,cap,rfl,hle,fun i hi=>?_⟩
 have h1:=hc i hi
 rw [Addr.add_lit] at h1
 exact ⟨b,off,rfl,cell_lt h1,h1⟩
theorem mnil_of_reads {W:World} {fuel:Nat} {v:Value} {p:List MemPlace} (h:DataW.trod (fun _=>()) Tryz.prog W 0 (fun _=>true) false fuel 22 [v]=some (.nil,p)):v=.slice none 0 0:=by
 rcases DataW.trod_slice Tryz.underlying22 h with ⟨h1,-⟩ | ⟨a,len,cap,elems,rest,n,_,_,hx,_⟩
 ·exact (List.cons.inj h1).1
 ·simp at hx
theorem mint_one {W:World} {fuel:Nat} {q:IntKind} {t:TypeId} {c:Value} {z:Int} {p:List MemPlace} (ht:Tryz.prog.underlying t=some (.int q)) (h:DataW.trod (fun _=>()) Tryz.prog W 0 (fun _=>true) false fuel t [c]=some ((.lit (.int q z):DataW Unit),p)):c=.int q z:=by
 obtain ⟨z',e1,f1,_⟩:=DataW.trod_int ht h
 cases e1
 simp only [Prod.mk.injEq,DataW.lit.injEq,Lit.int.injEq,true_and] at f1
 rw [←f1.1]
theorem scl_row {W:World} {fuel:Nat} {cs:List Value} {r:ScR} {d:DataW Unit} {p:List MemPlace}
 (h:DataW.trod (fun _=>()) Tryz.prog W 0 (fun _=>true) false fuel 275 cs=some (.agg [.lit (.int .i64 r.kind),.lit (.int .i64 r.least),.lit (.int .i64 r.count),.lit (.int .u8 r.first),.lit (.int .u8 r.wide),d],p)) :
 ∃v n q,cs=[.int .i64 r.kind,.int .i64 r.least,.int .i64 r.count,.int .u8 r.first,.int .u8 r.wide,v]∧DataW.trod (fun _=>()) Tryz.prog W 0 (fun _=>true) false n 22 [v]=some (d,q):=by
 obtain ⟨xs,n,hfu,hx,hlen,hxl,hall⟩:=DataW.trod_struct Tryz.underlying275 h
 rw [mcells_scl] at hlen
 obtain ⟨c0,c1,c2,c3,c4,c5,rfl⟩:=msix_list hlen
 obtain ⟨y0,y1,y2,y3,y4,y5,rfl⟩:=msix_list (show xs.length=6 from hxl)
 simp only [List.map_cons,List.map_nil,Prod.mk.injEq,DataW.agg.injEq,List.cons.injEq,and_true] at hx
 obtain ⟨⟨e0,e1,e2,e3,e4,e5⟩,-⟩:=hx
 have t0:DataW.trod (fun _=>()) Tryz.prog W 0 (fun _=>true) false n 3 (([c0,c1,c2,c3,c4,c5].drop 0).take (Tryz.prog.cellsOf 3))=some y0:=hall 0 _ rfl
 have t1:DataW.trod (fun _=>()) Tryz.prog W 0 (fun _=>true) false n 3 (([c0,c1,c2,c3,c4,c5].drop 1).take (Tryz.prog.cellsOf 3))=some y1:=hall 1 _ rfl
 have t2:DataW.trod (fun _=>()) Tryz.prog W 0 (fun _=>true) false n 3 (([c0,c1,c2,c3,c4,c5].drop 2).take (Tryz.prog.cellsOf 3))=some y2:=hall 2 _ rfl
 have t3:DataW.trod (fun _=>()) Tryz.prog W 0 (fun _=>true) false n 5 (([c0,c1,c2,c3,c4,c5].drop 3).take (Tryz.prog.cellsOf 5))=some y3:=hall 3 _ rfl
 have t4:DataW.trod (fun _=>()) Tryz.prog W 0 (fun _=>true) false n 5 (([c0,c1,c2,c3,c4,c5].drop 4).take (Tryz.prog.cellsOf 5))=some y4:=hall 4 _ rfl
 have t5:DataW.trod (fun _=>()) Tryz.prog W 0 (fun _=>true) false n 22 (([c0,c1,c2,c3,c4,c5].drop 5).take (Tryz.prog.cellsOf 22))=some y5:=hall 5 _ rfl
 rw [mcells_int] at t0 t1 t2
 rw [mcells_u8] at t3 t4
 rw [mcells_ints] at t5
 obtain ⟨d0,p0⟩:=y0
 obtain ⟨d1,p1⟩:=y1
 obtain ⟨d2,p2⟩:=y2
 obtain ⟨d3,p3⟩:=y3
 obtain ⟨d4,p4⟩:=y4
 obtain ⟨d5,p5⟩:=y5
 dsimp only at e0 e1 e2 e3 e4 e5
 subst e0 e1 e2 e3 e4 e5
 have f0:=mint_one Tryz.underlying3 (show DataW.trod (fun _=>()) Tryz.prog W 0 (fun _=>true) false n 3 [c0]=_ from t0)
 have f1:=mint_one Tryz.underlying3 (show DataW.trod (fun _=>()) Tryz.prog W 0 (fun _=>true) false n 3 [c1]=_ from t1)
 have f2:=mint_one Tryz.underlying3 (show DataW.trod (fun _=>()) Tryz.prog W 0 (fun _=>true) false n 3 [c2]=_ from t2)
 have f3:=mint_one Tryz.underlying5 (show DataW.trod (fun _=>()) Tryz.prog W 0 (fun _=>true) false n 5 [c3]=_ from t3)
 have f4:=mint_one Tryz.underlying5 (show DataW.trod (fun _=>()) Tryz.prog W 0 (fun _=>true) false n 5 [c4]=_ from t4)
 exact ⟨c5,n,p5,by rw [f0,f1,f2,f3,f4],t5⟩
theorem scAll_at (v:Nat→Value) (i q:Nat) (hi:i<7) (hq:q<6):(scAll v)[i * 6+q]?=(scC i (v i))[q]?:=by
 obtain rfl | rfl | rfl | rfl | rfl | rfl | rfl:i=0∨i=1∨i=2∨i=3∨i=4∨i=5∨i=6:=by omega
 all_goals
  obtain rfl | rfl | rfl | rfl | rfl | rfl:q=0∨q=1∨q=2∨q=3∨q=4∨q=5:=by omega
  all_goals rfl
theorem scl_of_reads {W : World} {cs : Array Value} {fuel : Nat} {p : List MemPlace} (hv : W.var? Tryz.prog "keyevent/pack.scales" = some cs) (h : DataW.trod (fun _ => ()) Tryz.prog W 0 (fun _ => true) false fuel 276 cs.toList = some (Rows.laid_keyevent_pack_scales, p)) : Scl W := by
 rw [laid_isC] at h
 obtain ⟨xs,m,rfl,hx,hl,hxl,hall⟩:=DataW.trod_array Tryz.underlying276 h
 have hcc:∀j,W.cell? ⟨9,j,none⟩=cs[j]?:=fun j=>World.var?_cell (g:=9) (by kernel_rfl) hv j
 have key:∀i,i<7→∃v n q,(cs.toList.drop (i * 6)).take 6=[.int .i64 (scR i).kind,.int .i64 (scR i).least,.int .i64 (scR i).count,.int .u8 (scR i).first,.int .u8 (scR i).wide,v]∧DataW.trod (fun _=>()) Tryz.prog W 0 (fun _=>true) false n 22 [v]=some (scI i,q):=by
  intro i hi
  have hi':=hall i hi
  rw [mcells_scl] at hi'
  have hxs:xs.map (·.1)=scD:=by
   have:=congrArg Prod.fst hx
   simpa using this.symm
  obtain ⟨b,hb⟩:∃b,xs[i]?=some b:=⟨xs[i]'(by omega),List.getElem?_eq_getElem (by omega)⟩
  rw [hb] at hi'
  have hb1:b.1=.agg [.lit (.int .i64 (scR i).kind),.lit (.int .i64 (scR i).least),.lit (.int .i64 (scR i).count),.lit (.int .u8 (scR i).first),.lit (.int .u8 (scR i).wide),scI i]:=by
   have:=congrArg (·[i]?) hxs
   simp only [List.getElem?_map,hb,Option.map_some] at this
   simp only [scD,List.getElem?_map,List.getElem?_range hi,Option.map_some,Option.some.injEq] at this
   exact this
  obtain ⟨d,q⟩:=b
  simp only at hb1
  subst hb1
  exact scl_row hi'
 have hcell:∀i,i<7→∀q,q<6→cs[i * 6+q]?=((cs.toList.drop (i * 6)).take 6)[q]?:=fun i hi q hq=>by
  rw [List.getElem?_take,if_pos hq,List.getElem?_drop];simp
 have key2:∀i,i<7→∃n q,DataW.trod (fun _=>()) Tryz.prog W 0 (fun _=>true) false n 22 [cs[i * 6+5]?.getD (.slice none 0 0)]=some (scI i,q)∧∀q,q<6→cs[i * 6+q]?=(scC i (cs[i * 6+5]?.getD (.slice none 0 0)))[q]?:=by
  intro i hi
  obtain ⟨v,n,p',h1,h2⟩:=key i hi
  have h5:=hcell i hi 5 (by omega)
  rw [h1] at h5
  have h5:cs[i * 6+5]?=some v:=h5
  rw [h5]
  refine ⟨n,p',h2,fun q hq=>?_⟩
  rw [hcell i hi q hq,h1]
  rfl
 refine ⟨fun i=>cs[i * 6+5]?.getD (.slice none 0 0),?_,Lr _,fun j u hu=>?_,fun i hi=>?_⟩
 ·obtain ⟨n,q,h1,h2⟩:=key2 0 (by omega)
  have:=h2 0 (by omega)
  rw [←hcc] at this
  exact cell_lt this
 ·have hj:j<42:=lt_of_some hu
  rw [hcc,←hu]
  obtain ⟨n,q,h1,h2⟩:=key2 (j / 6) (by omega)
  have:=h2 (j % 6) (by omega)
  rw [←scAll_at (fun i=>cs[i * 6+5]?.getD (.slice none 0 0)) (j / 6) (j % 6) (by omega) (by omega)] at this
  rw [show j / 6 * 6+j % 6=j by omega] at this
  exact this
 ·obtain ⟨n,q,h1,-⟩:=key2 i hi
  show IntsAt W.heap.size W (cs[i * 6+5]?.getD _) _
  unfold scI at h1
  by_cases hz:(scR i).widths.length=0
  ·rw [if_pos hz] at h1
   rw [mnil_of_reads h1,List.length_eq_zero_iff.1 hz]
   exact ⟨none,0,rfl,Lr _,fun j hj=>absurd hj (Nat.not_lt_zero _)⟩
  ·rw [if_neg hz] at h1
   exact mints_of_reads h1 (by omega)
theorem jt8_of_laid {w : World} (h : laidMetH Tryz.prog [("math/bits.deBruijn32tab", Rows.laid_math_bits_deBruijn32tab), ("math/bits.deBruijn64tab", Rows.laid_math_bits_deBruijn64tab), ("internal/strconv.uint64pow10", Rows.laid_internal_strconv_uint64pow10), ("unicode/utf8.acceptRanges", Rows.laid_unicode_utf8_acceptRanges), ("strconv.ErrRange", Rows.laid_strconv_ErrRange), ("strconv.ErrSyntax", Rows.laid_strconv_ErrSyntax), ("keyevent/pack.scales", Rows.laid_keyevent_pack_scales), ("unicode/utf8.first", Rows.laid_unicode_utf8_first)] w) : Ftab w := by
 rw [MakeChecks.laidMetH_plain _ _ _ (by kernel_rfl)] at h
 obtain ⟨a,sa,hva,-,-,-⟩:=laid_sentinel h.tail.tail.tail.tail (g:=8) (ti:=126) (tp:=279) (te:=281) (ts:=9) (by kernel_rfl) (by kernel_rfl) Tryz.underlying126 row_err Tryz.underlying279 Tryz.underlying281 rfl rfl Tryz.underlying9 (by kernel_rfl) (by kernel_rfl)
 obtain ⟨b,sb,hvb,-,-,-⟩:=laid_sentinel h.tail.tail.tail.tail.tail (g:=7) (ti:=126) (tp:=279) (te:=281) (ts:=9) (by kernel_rfl) (by kernel_rfl) Tryz.underlying126 row_err Tryz.underlying279 Tryz.underlying281 rfl rfl Tryz.underlying9 (by kernel_rfl) (by kernel_rfl)
 have e1:w.cell? ⟨7,0,none⟩=some (.iface 279 (.pointer (some b))):=by
  have:=World.var?_cell (g:=7) (by kernel_rfl) hvb 0
  simpa using this
 have e2:w.cell? ⟨8,0,none⟩=some (.iface 279 (.pointer (some a))):=by
  have:=World.var?_cell (g:=8) (by kernel_rfl) hva 0
  simpa using this
 have hs:Scl w:=by
  obtain ⟨g',t',cs,fuel,p,hg',ht',hvar,hd⟩:=Lib.laidMet.reads h (.tail _ (.tail _ (.tail _ (.tail _ (.tail _ (.tail _ (.head _)))))))
  have e1 : Tryz.prog.globalNamed "keyevent/pack.scales" = some 9 := by kernel_rfl
  obtain rfl:=Option.some.inj (e1.symm.trans hg')
  have e2:(Tryz.prog.globals[9]?).map (·.type)=some 276:=by kernel_rfl
  obtain rfl:=Option.some.inj (e2.symm.trans ht')
  exact scl_of_reads hvar hd
 exact ⟨Utab.of (jlaid_first ▸ Lib.laidMet.reads h (.tail _ (.tail _ (.tail _ (.tail _ (.tail _ (.tail _ (.tail _ (.head _))))))))) (jlaid_accept ▸ Lib.laidMet.reads h (.tail _ (.tail _ (.tail _ (.head _))))),jitab_of h.tail.tail,⟨⟨_,_,e1⟩,⟨_,_,e2⟩⟩,hs⟩
theorem door_met8 (os : Os) (args : Array Value) : laidMetH Tryz.prog [("math/bits.deBruijn32tab", Rows.laid_math_bits_deBruijn32tab), ("math/bits.deBruijn64tab", Rows.laid_math_bits_deBruijn64tab), ("internal/strconv.uint64pow10", Rows.laid_internal_strconv_uint64pow10), ("unicode/utf8.acceptRanges", Rows.laid_unicode_utf8_acceptRanges), ("strconv.ErrRange", Rows.laid_strconv_ErrRange), ("strconv.ErrSyntax", Rows.laid_strconv_ErrSyntax), ("keyevent/pack.scales", Rows.laid_keyevent_pack_scales), ("unicode/utf8.first", Rows.laid_unicode_utf8_first)] ((World.laidAll Tryz.prog os [("math/bits.deBruijn32tab", Rows.laid_math_bits_deBruijn32tab), ("math/bits.deBruijn64tab", Rows.laid_math_bits_deBruijn64tab), ("internal/strconv.uint64pow10", Rows.laid_internal_strconv_uint64pow10), ("unicode/utf8.acceptRanges", Rows.laid_unicode_utf8_acceptRanges), ("strconv.ErrRange", Rows.laid_strconv_ErrRange), ("strconv.ErrSyntax", Rows.laid_strconv_ErrSyntax), ("keyevent/pack.scales", Rows.laid_keyevent_pack_scales), ("unicode/utf8.first", Rows.laid_unicode_utf8_first)]).forCall (fun _ _ => 0) ⟨#[], args, []⟩).memory := by
 rw [MakeChecks.laidMetH_plain _ _ _ (by kernel_rfl)]
 exact laidMet_laidAll _ (by kernel_rfl) (by kernel_rfl)
end Go.Proofs.YtcklddldejejcaaGreatDoor
namespace Go.Proofs.YtcklddldejejcaaGreatDoor
open Go Go.ChangeShapes Go.WideShapes Go.ChangeAt Go.RowKit
def st1 (z:Int):Bool:=z == 123
def st2 (z:Int):Bool:=decide (160≤z) && decide (z≤187)
def st3 (z:Int):Bool:=(decide (128≤z) && decide (z≤143)) || z == 222
theorem rdecas_any (k:Int) (s:ByteArray) (w:World) (hT:Ftab w):Calls Tryz.prog 16 #[.int .i64 k,.string s] w (DecW (FoIs k s) w):=by
 rcases fo_split k with rfl | rfl | rfl | hk
 ·refine rdecas_at 1 _ s w _ (.inl ⟨rfl,rfl⟩) fun wx hb h0=>(rdec_any s wx (hT.below hb).u (hT.below hb).i (by omega)).mono ?_
  rintro e w' ⟨cs,x,er,h1,h2,h3,h4⟩
  exact ⟨cs,x,er,h1,h2,h3,.inl ⟨rfl,h4⟩⟩
 ·refine rdecas_at 2 _ s w _ (.inr (.inl ⟨rfl,rfl⟩)) fun wx hb h0=>(crdec_any s wx (hT.below hb).u (by omega)).mono ?_
  rintro e w' ⟨cs,x,er,h1,h2,h3,h4⟩
  exact ⟨cs,x,er,h1,h2,h3,.inr (.inl ⟨rfl,h4⟩)⟩
 ·refine rdecas_at 3 _ s w _ (.inr (.inr ⟨rfl,rfl⟩)) fun wx hb h0=>(mrdec_any s wx (hT.below hb).u (by omega)).mono ?_
  rintro e w' ⟨cs,x,er,h1,h2,h3,h4⟩
  exact ⟨cs,x,er,h1,h2,h3,.inr (.inr (.inl ⟨rfl,h4⟩))⟩
 ·exact rdecas_no k s w _ hk (.inr (.inr (.inr ⟨hk,rfl,rfl⟩)))
end Go.Proofs.YtcklddldejejcaaGreatDoor
namespace Go.Proofs.YtcklddldejejcaaGreatDoor
open Go Go.RowKit Go.Shelf Go.Lib
theorem vlaid_64z:(Rows.laid_math_bits_deBruijn64tab:DataW Unit)=tabData .u8 (Lib.deBruijn64tab.map Int.ofNat):=by kernel_rfl
theorem v8_of_laid {w : World} (h : laidMetH Tryz.prog [("math/bits.deBruijn32tab", Rows.laid_math_bits_deBruijn32tab), ("math/bits.deBruijn64tab", Rows.laid_math_bits_deBruijn64tab), ("internal/strconv.uint64pow10", Rows.laid_internal_strconv_uint64pow10), ("unicode/utf8.acceptRanges", Rows.laid_unicode_utf8_acceptRanges), ("strconv.ErrRange", Rows.laid_strconv_ErrRange), ("strconv.ErrSyntax", Rows.laid_strconv_ErrSyntax), ("keyevent/pack.scales", Rows.laid_keyevent_pack_scales), ("unicode/utf8.first", Rows.laid_unicode_utf8_first)] w) : Ftab w ∧ DB w := by
 refine ⟨jt8_of_laid h,?_⟩
 rw [MakeChecks.laidMetH_plain _ _ _ (by kernel_rfl)] at h
 have h2:=h.tail
 rw [vlaid_64z] at h2
 have ht : TabIs Tryz.prog w "math/bits.deBruijn64tab" .u8 (Lib.deBruijn64tab.map Int.ofNat) := tabIs_of_head (g := 11) (t := 282) (e := 5) (n := 64) (by kernel_rfl) (by kernel_rfl) Tryz.underlying282 Tryz.underlying5 (by kernel_rfl) (by kernel_rfl) h2
 have e2:=World.var?_cell (g:=11) (by kernel_rfl) ht 15
 exact e2.trans (by kernel_rfl)
end Go.Proofs.YtcklddldejejcaaGreatDoor