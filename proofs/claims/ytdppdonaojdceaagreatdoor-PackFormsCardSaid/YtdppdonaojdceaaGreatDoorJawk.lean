/- Same: the program's own. Then: slices.Index over names, slices.Clone over nodes; Text, Number, List, Map. Then: Put, where the map that results is valid. Then: Text, Number, List, Map, Get. Then: The sanity check of the statements of node. -/
import Derived.Test.YtdppdonaojdceaaGreatDoorCva
import Derived.Test.YtdppdonaojdceaaGreatDoorJwn
import Derived.BigQuiet
import Derived.Deep.QuietTactic
import Derived.WalkSpells
import Derived.Deep.AppendLies
set_option linter.unusedVariables false
set_option linter.unusedSimpArgs false
set_option maxRecDepth 100000
set_option maxHeartbeats 6400000
namespace Go.Proofs.YtdppdonaojdceaaGreatDoor
open Go Go.ChangeShapes Go.WideShapes Go.ChangeAt Go.RowKit
def BoolFor (p:Prop) (w:World) (e:Ending) (w':World):Prop:=∃b:Bool,e=.returned (.bool b)∧(b=true↔p)∧Below w.heap.size w w'
theorem StrsIn.get {S:Nat→Prop} {w:World} {ao:Option Addr} {l cap:Nat} {ns:List ByteArray} (h:StrsIn S w (.slice ao l cap) ns) {j:Nat} {s:ByteArray} (hj:ns[j]?=some s):∃b off,ao=some ⟨b,off,none⟩∧S b∧w.cell? ⟨b,off+j,none⟩=some (.string s):=by
 obtain ⟨ao',cap',e,h1,h2,h3⟩:=h
 cases e
 obtain ⟨b,off,e,hS,hc,_⟩:=h3 j s hj
 exact ⟨b,off,e,hS,hc⟩
theorem str_beq {a b:ByteArray} (h:a=b):(a.toList == b.toList)=true:=by rw [h];exact beq_self_eq_true _
theorem str_bne {a b:ByteArray} (h:a ≠ b):(a.toList == b.toList)=false:=by
 rw [beq_eq_false_iff_ne]
 intro e
 rw [ByteArray.toList_eq,ByteArray.toList_eq] at e
 exact h (ByteArray.ext (Array.toList_inj.1 e))
section
variable {TN TS:TypeId} {d:Nat} {S:Nat→Prop} {w wx wn:World} {gb:Nat} {cv:List Value} {vn vi:Value} {ns:List ByteArray} {A:List NC}
end
theorem ntext_any (s:ByteArray) (w:World):Calls Tryz.prog 91 #[.string s] w fun e w'=>e=.returned (.agg #[.int .i64 3,.bool false,.int .i64 0,.string s,.slice none 0 0,.slice none 0 0])∧Below w.heap.size w w':=by
 go_enter Tryz.func91,Tryz.ntmps91
 go_wp2
 refine bodyPost_ret (v:=.agg #[.int .i64 3,.bool false,.int .i64 0,.string s,.slice none 0 0,.slice none 0 0]) ?_ ?_ ?_
 rotate_left
 ·rfl
 ·exact ⟨rfl,(Br _ _).alloc (Lr _) _⟩
 ·obtain ⟨q0,q1,q2,q3,q4,q5⟩:=six_of (Hn w (.cells #[.int .i64 3,.bool false,.int .i64 0,.string s,.slice none 0 0,.slice none 0 0] 30))
  simp [results,Tryz.results91,go_sem,q0,q1,q2,q3,q4,q5]
theorem nnum_any (z:Int) (w:World):Calls Tryz.prog 106 #[.int .i64 z] w fun e w'=>e=.returned (.agg #[.int .i64 2,.bool false,.int .i64 z,.string ⟨#[]⟩,.slice none 0 0,.slice none 0 0])∧Below w.heap.size w w':=by
 go_enter Tryz.func106,Tryz.ntmps106
 go_wp2
 refine bodyPost_ret (v:=.agg #[.int .i64 2,.bool false,.int .i64 z,.string ⟨#[]⟩,.slice none 0 0,.slice none 0 0]) ?_ ?_ ?_
 rotate_left
 ·rfl
 ·exact ⟨rfl,(Br _ _).alloc (Lr _) _⟩
 ·obtain ⟨q0,q1,q2,q3,q4,q5⟩:=six_of (Hn w (.cells #[.int .i64 2,.bool false,.int .i64 z,.string ⟨#[]⟩,.slice none 0 0,.slice none 0 0] 30))
  simp [results,Tryz.results106,go_sem,q0,q1,q2,q3,q4,q5]
theorem cnumsB_down:∀ {d e:Nat} {x:ND},d≤e→numsB e x=true→numsB d x=true
 | 0,_,_,_,_=>rfl
 | d+1,0,_,h,_=>by omega
 | d+1,e+1,x,hd,hn=>by
  rw [numsB_succ,Bool.and_eq_true,List.all_eq_true] at hn ⊢
  exact ⟨hn.1,fun y hy=>cnumsB_down (by omega) (hn.2 y hy)⟩
def CDecIs (s:ByteArray) (x:ND) (er:Int):Prop:=(er=0∧validN 8 x=true∧numsB 8 x=true∧writeC 8 x=s.data.toList∧s.size≤65536)∨(er=4∧x=nd0∧∀y,validN 8 y=true→numsB 8 y=true→s.size≤65536→writeC 8 y ≠ s.data.toList)
def CDecPost (s:ByteArray) (w:World) (e:Ending) (w':World):Prop:=∃ (cs:List Value) (x:ND) (er:Int),e=.returned (.tuple #[.agg cs.toArray,.int .i64 er])∧NodeIn 9 (fun b=>w.heap.size≤b∧b<w'.heap.size) w' cs x∧Below w.heap.size w w'∧CDecIs s x er
theorem cdec_uniq {s:ByteArray} {x y:ND} {e f:Int} (h:CDecIs s x e) (g:CDecIs s y f):x=y∧e=f:=by
 rcases h with ⟨rfl,h1,h2,h3,h4⟩ | ⟨rfl,rfl,h1⟩ <;> rcases g with ⟨rfl,g1,g2,g3,g4⟩ | ⟨rfl,rfl,g1⟩
 ·exact ⟨(writeC_app_inj 8 x y [] [] h1 h2 g1 g2 (by rw [h3,g3])).1,rfl⟩
 ·exact absurd h3 (g1 x h1 h2 h4)
 ·exact absurd g3 (h1 y g1 g2 g4)
 ·exact ⟨rfl,rfl⟩
theorem cdec_none {s:ByteArray} {w wx:World} (hb:Below w.heap.size w wx) (hV:CDecIs s nd0 4) :
 CDecPost s w (.returned (.tuple #[.agg #[.int .i64 0,.bool false,.int .i64 0,.string ⟨#[]⟩,.slice none 0 0,.slice none 0 0],.int .i64 4])) (set6 wx w.heap.size (.int .i64 0) (.bool false) (.int .i64 0) (.string ⟨#[]⟩) (.slice none 0 0) (.slice none 0 0)):=by
 have hgs:=grown_set6 wx w.heap.size (.int .i64 0) (.bool false) (.int .i64 0) (.string ⟨#[]⟩) (.slice none 0 0) (.slice none 0 0)
 exact ⟨[.int .i64 0,.bool false,.int .i64 0,.string ⟨#[]⟩,.slice none 0 0,.slice none 0 0],nd0,4,rfl,(node_leaf _ _ 0 false 0 ⟨#[]⟩ (by decide)).deeper (by decide),hb.grown hgs hb.size (fun k hk=>by cases hk;exact Lr _),hV⟩
theorem crdec_any (s:ByteArray) (w:World) (hT:Utab w) (hw0:0<w.heap.size):Calls Tryz.prog 26 #[.string s] w (CDecPost s w):=by
 have b0:=(Br w.heap.size w).alloc (o:=.cells #[.int .i64 0,.bool false,.int .i64 0,.string ⟨#[]⟩,.slice none 0 0,.slice none 0 0] 30) (Lr _)
 have hr0:=Hn w (.cells #[.int .i64 0,.bool false,.int .i64 0,.string ⟨#[]⟩,.slice none 0 0,.slice none 0 0] 30)
 by_cases hl:65536<s.size
 ·have hl':(65536:Int)<(s.size:Int):=by omega
  have HV:Hid (CDecIs s nd0 4):=Hh (.inr ⟨rfl,rfl,fun y _ _ h=>absurd h (by omega)⟩)
  have B0:=Hh b0
  have HR:=Hh hr0
  clear hl b0 hr0
  go_enter Tryz.func26,Tryz.ntmps26
  go_upto_region 1 with fail
  generalize w.alloc (.cells #[.int .i64 0,.bool false,.int .i64 0,.string ⟨#[]⟩,.slice none 0 0,.slice none 0 0] 30)=w0 at B0 HR ⊢
  have f1:=free_six HR.out
  have cz1:=six_of HR.out
  go_wp2
  refine ret_node (v:=.int .i64 4) HR.out Tryz.results26 rfl rfl rfl ?_
  exact cdec_none B0.out HV.out
 ·have hl':¬ (65536:Int)<(s.size:Int):=by omega
  have hsl:s.data.toList.length=s.size:=by rw [Array.length_toList];rfl
  have HSL:=Hh hsl
  have HL:=Hh hl
  have HT:=Hh hT
  have hsi:(s.size:Int)≤65536:=by omega
  clear hT hl hsl
  go_enter Tryz.func26,Tryz.ntmps26
  go_upto_region 1 with fail
  generalize w.alloc (.cells #[.int .i64 0,.bool false,.int .i64 0,.string ⟨#[]⟩,.slice none 0 0,.slice none 0 0] 30)=w0 at b0 hr0 ⊢
  have B0:=Hh b0
  have HR:=Hh hr0
  have VC:=cvalue_any 8 (by decide) s 0 w0 (by have:=b0.size;omega) (Nat.zero_le _) (by have:=HL.out;omega)
  rw [show ((8:Nat):Int)=8 from rfl,show ((0:Nat):Int)=0 from rfl] at VC
  have VV:=Hh VC
  clear b0 hr0 VC
  go_upto_region 4 with ((with_reducible refine (VV.out).mono ?_);rintro e5 w5 ⟨cs,x,q,rfl,hnode,hb5,hq5,hf5,hv5⟩;go_loud ((obtain ⟨a1,l1,c1,a2,l2,c2,hcs⟩:=hnode.slices);subst hcs))
  have b6:=(Br w5.heap.size w5).alloc (o:=.cells #[.int .i64 x.kind,.bool x.bool,.int .i64 x.num,.string x.text,.slice a1 l1 c1,.slice a2 l2 c2] 30) (Lr _)
  have k6:=Hn w5 (.cells #[.int .i64 x.kind,.bool x.bool,.int .i64 x.num,.string x.text,.slice a1 l1 c1,.slice a2 l2 c2] 30)
  have hnd6:=hnode.same fun b hb=>b6.block b hb.2
  have hB5:=B0.out.trans (hb5.mono B0.out.size)
  have hB6:=hB5.trans (b6.mono hB5.size)
  have hr6:=(b6.block _ (by have:=hb5.size;have:=lt_of_block HR.out;omega)).trans ((hb5.block _ (lt_of_block HR.out)).trans HR.out)
  have hz5:w.heap.size<w5.heap.size:=by have:=hb5.size;have:=lt_of_block HR.out;omega
  generalize w5.alloc (.cells #[.int .i64 x.kind,.bool x.bool,.int .i64 x.num,.string x.text,.slice a1 l1 c1,.slice a2 l2 c2] 30)=w6 at b6 k6 hnd6 hB6 hr6 ⊢
  obtain ⟨g6,hg6⟩:∃g,g=w5.heap.size:=⟨_,rfl⟩
  rw [←hg6] at k6 hz5 ⊢
  have HZ5:=Hh (Ai hz5 (Ai hg6 b6.size))
  have HB6:=Hh hB6
  have HR6:=Hh hr6
  have HK6:=Hh k6
  have HND:=Hh (Ai hnd6 B0.out.size)
  have HQ:=Hh hq5
  have HF:=Hh hf5
  have hv8:∀y,validN 8 y=true→numsB 8 y=true→writeC 8 y=s.data.toList→x=y∧(s.size:Int)≤q:=fun y h1 h2 h3=>by
   obtain ⟨e1,e2,e3⟩:=hv5 y [] ⟨h1,h2,by rw [List.drop_zero,List.append_nil,h3]⟩
   refine ⟨e1,?_⟩
   have:=congrArg List.length e3
   rw [List.length_drop,HSL.out] at this
   simp at this
   omega
  have HV8:=Hh hv8
  have hck:=six_of k6
  have VA:=Hh (risvalid_any _ x w6 hnd6 (fun b hb=>Ll hb.2 (by have:=b6.size;omega)) hf5.1 (HT.out.below hB6))
  clear hg6 k6 hnd6 hB6 hr6 hv8 hv5 hnode hb5 hf5 hq5 hB5 VV b6 hz5
  by_cases hq:q=(s.size:Int)
  ·subst hq
   have hqq:((s.size:Int) != (s.size:Int))=false:=by simp
   cases hv:validN 8 x with
   | false=>
    rw [hv] at VA
    have HV:Hid (CDecIs s nd0 4):=Hh (.inr ⟨rfl,rfl,fun y h1 h2 h3 h4=>by
     obtain ⟨rfl,-⟩:=HV8.out y h1 h2 h4
     rw [hv] at h1;cases h1⟩)
    clear hv
    go_upto_region 5 with ((with_reducible refine (VA.out).mono ?_);rintro e7 w7 ⟨rfl,hb7⟩)
    have hB7:=HB6.out.trans (hb7.mono HB6.out.size)
    have hr7:=(hb7.block _ (lt_of_block HR6.out)).trans HR6.out
    have f1:=free_six hr7
    have cz1:=six_of hr7
    go_wp2
    refine ret_node (v:=.int .i64 4) hr7 Tryz.results26 rfl rfl rfl ?_
    exact cdec_none hB7 HV.out
   | true=>
    rw [hv] at VA
    have hnu:numsB 8 x=true:=cnumsB_down (by decide) HF.out.2
    have hcost:(writeC 8 x).length≤35184372088832:=by
     have h1:=writeC_cost 8 x hv
     have h2:=costN_same (e:=8) (d:=9) (by decide) hv
     rcases HQ.out with h | ⟨-,-,h⟩
     ·omega
     ·have h:(costN (8+1) x:Int)+8≤40 * ((s.size:Int) - 0):=h
      rw [show (8:Nat)+1=9 from rfl,h2] at h
      omega
    have WR:=Hh (fun wx (hb:Below w6.heap.size w6 wx)=>rcwrite_any 8 9 _ _ x wx (HND.out.1.same fun b hb'=>hb.block b (Ll hb'.2 (by have:=HZ5.out;omega))) (fun b hb'=>Ll hb'.2 (by have:=HZ5.out;have:=hb.size;omega)) hv hnu hcost)
    have CK:=Hh (fun wx (hb:Below w6.heap.size w6 wx)=>six_of ((hb.block _ (lt_of_block HK6.out)).trans HK6.out))
    obtain ⟨t,ht⟩:∃t:ByteArray,t=bC (writeC 8 x):=⟨_,rfl⟩
    rw [←ht] at WR
    have htl:t.data.toList=writeC 8 x:=by rw [ht,bC_data]
    have HTL:=Hh htl
    have HVN:=Hh (Ai hv hnu)
    clear ht hv hnu hcost htl
    by_cases hts:t=s
    ·have tts:(t.toList == s.toList)=true:=str_beq hts
     have tts2:(t.toList != s.toList)=false:=by rw [bne,tts];rfl
     have HV:Hid (CDecIs s x 0):=Hh (.inl ⟨rfl,HVN.out.1,HVN.out.2,by rw [←HTL.out,hts],by have:=HL.out;omega⟩)
     clear hts
     go_upto_region 6 with (first
      | (go_at_call 17;(with_reducible refine (VA.out).mono ?_);rintro e7 w7 ⟨rfl,hb7⟩;(have ck7:=CK.out _ hb7))
      | (go_at_call 37;(with_reducible refine (WR.out _ hb7).mono ?_);rintro e8 w8 ⟨rfl,hb8⟩))
     have hb68:=hb7.trans (hb8.mono hb7.size)
     have hB8:=HB6.out.trans (hb68.mono HB6.out.size)
     have hr8:=(hb68.block _ (lt_of_block HR6.out)).trans HR6.out
     have ck8:=CK.out _ hb68
     have HR8:=Hh hr8
     have HB8:=Hh hB8
     have HB68:=Hh hb68
     have f1:=free_six hr8
     have cz1:=six_of hr8
     clear hb68 hB8 hr8 hb7 hb8 ck7 hck
     go_wp2
     refine ret_node (v:=.int .i64 0) HR8.out Tryz.results26 rfl rfl rfl ?_
     have hgs:=grown_set6 w8 w.heap.size (.int .i64 x.kind) (.bool x.bool) (.int .i64 x.num) (.string x.text) (.slice a1 l1 c1) (.slice a2 l2 c2)
     refine ⟨[.int .i64 x.kind,.bool x.bool,.int .i64 x.num,.string x.text,.slice a1 l1 c1,.slice a2 l2 c2],x,0,rfl,?_,HB8.out.grown hgs HB8.out.size (fun k hk=>by cases hk;exact Lr _),HV.out⟩
     have hz:=HZ5.out
     have hzb:=HB68.out.size
     have hr:=lt_of_block HR.out
     exact ((HND.out.1.same fun b hb=>HB68.out.block b (by omega)).same fun b hb=>hgs.block b (by omega) (by intro e;have:=Option.some.inj e;omega)).mono fun b hb=>⟨by have:=HND.out.2;omega,Ll (by omega) hgs.size⟩
    ·have tts:(t.toList == s.toList)=false:=str_bne hts
     have tts2:(t.toList != s.toList)=true:=by rw [bne,tts];rfl
     have HV:Hid (CDecIs s nd0 4):=Hh (.inr ⟨rfl,rfl,fun y h1 h2 h3 h4=>by
      obtain ⟨rfl,-⟩:=HV8.out y h1 h2 h4
      apply hts
      have e1:=HTL.out.trans h4
      exact data_inj e1⟩)
     clear hts
     go_upto_region 5 with (first
      | (go_at_call 17;(with_reducible refine (VA.out).mono ?_);rintro e7 w7 ⟨rfl,hb7⟩;(have ck7:=CK.out _ hb7))
      | (go_at_call 37;(with_reducible refine (WR.out _ hb7).mono ?_);rintro e8 w8 ⟨rfl,hb8⟩))
     have hb68:=hb7.trans (hb8.mono hb7.size)
     have hB8:=HB6.out.trans (hb68.mono HB6.out.size)
     have hr8:=(hb68.block _ (lt_of_block HR6.out)).trans HR6.out
     have f1:=free_six hr8
     have cz1:=six_of hr8
     go_wp2
     refine ret_node (v:=.int .i64 4) hr8 Tryz.results26 rfl rfl rfl ?_
     exact cdec_none hB8 HV.out
  ·have hqq:(q != (s.size:Int))=true:=by simp [hq]
   have hqq2:(q == (s.size:Int))=false:=by simp [hq]
   have HV:Hid (CDecIs s nd0 4):=Hh (.inr ⟨rfl,rfl,fun y h1 h2 h3 h4=>by
    obtain ⟨-,h5⟩:=HV8.out y h1 h2 h4
    rcases HQ.out with h | ⟨-,h,-⟩
    ·omega
    ·exact hq (by omega)⟩)
   clear hq
   have f1:=free_six HR6.out
   have cz1:=six_of HR6.out
   go_wp2
   refine ret_node (v:=.int .i64 4) HR6.out Tryz.results26 rfl rfl rfl ?_
   exact cdec_none HB6.out HV.out
def jsS (x:ND):ByteArray:=if validN 8 x then (if 65536<(writeN 8 x).length then ⟨#[]⟩ else ⟨(writeN 8 x).toArray⟩) else ⟨#[]⟩
def jsE (x:ND):Int:=if validN 8 x then (if 65536<(writeN 8 x).length then 3 else 0) else 1
theorem jse_bad {x:ND} (h:validN 8 x=false):jsS x=⟨#[]⟩∧jsE x=1:=by unfold jsS jsE;rw [h];exact ⟨rfl,rfl⟩
theorem jse_long {x:ND} (h:validN 8 x=true) (hl:65536<(writeN 8 x).length):jsS x=⟨#[]⟩∧jsE x=3:=by unfold jsS jsE;rw [h,if_pos rfl,if_pos rfl,if_pos hl,if_pos hl];exact ⟨rfl,rfl⟩
theorem jse_good {x:ND} (h:validN 8 x=true) (hl:¬65536<(writeN 8 x).length):jsS x=⟨(writeN 8 x).toArray⟩∧jsE x=0:=by unfold jsS jsE;rw [h,if_pos rfl,if_pos rfl,if_neg hl,if_neg hl];exact ⟨rfl,rfl⟩
def EncPost (x:ND) (w:World) (e:Ending) (w':World):Prop:=e=.returned (.tuple #[.string (jsS x),.int .i64 (jsE x)])∧Below w.heap.size w w'
theorem ITb.of {w w':World} {g:Nat} (h:Itab w) (hb:Below w.heap.size w w') (hg:w.heap.size≤g):ITb g w':=fun w'' h''=>Lib.tabBelow_of_tabIs h w'' (hb.trans (h''.mono hg))
theorem WSt.fresh {w:World} {m:Nat} (hm:m<w.heap.size):WStJ (w.heap.size+1) (w.alloc (.cells #[.slice none 0 0,.map (some m)] 79)) w.heap.size m []:=
 ⟨_,Hn _ _,World.ownsRow_nil _ _ _ _,Nat.lt_succ_self _,hm⟩
theorem WFr.below {TB:TypeId} {g C:Nat} {w w':World} (h:WFr TB g w w') (hC:C≤g):Below C w w':=h.1.mono hC
theorem jenc_any {D:Nat} {S:Nat→Prop} (cs:List Value) (x:ND) (w:World) (h:NodeIn D S w cs x) (hS:∀b,S b→b<w.heap.size) (hl:lowV D x) (hw:validN 8 x=true→numsB 8 x=true) (hT:Utab w) (hI:Itab w):Calls Tryz.prog 39 #[.agg cs.toArray] w (EncPost x w):=by
 obtain ⟨a1,l1,c1,a2,l2,c2,rfl⟩:=h.slices
 obtain ⟨ib,hib,hb0,hb1,hb2⟩:=info_parts Tryz.info5
 have b1:=(Br w.heap.size w).alloc (o:=.cells #[.int .i64 x.kind,.bool x.bool,.int .i64 x.num,.string x.text,.slice a1 l1 c1,.slice a2 l2 c2] 30) (Lr _)
 have ck:=six_of (Hn w (.cells #[.int .i64 x.kind,.bool x.bool,.int .i64 x.num,.string x.text,.slice a1 l1 c1,.slice a2 l2 c2] 30))
 have hwl:w.heap.size<(w.alloc (.cells #[.int .i64 x.kind,.bool x.bool,.int .i64 x.num,.string x.text,.slice a1 l1 c1,.slice a2 l2 c2] 30)).heap.size:=by simp
 obtain ⟨w1,hw1⟩:∃W,W=w.alloc (.cells #[.int .i64 x.kind,.bool x.bool,.int .i64 x.num,.string x.text,.slice a1 l1 c1,.slice a2 l2 c2] 30):=⟨_,rfl⟩
 rw [←hw1] at b1 ck hwl
 have V:=Hh (isvalidV_any _ x w1 (h.same fun b hb=>b1.block b (hS b hb)) (fun b hb=>Ll (hS b hb) b1.size) hl (hT.below b1))
 have B1:=Hh b1
 have CK:=Hh ck
 have HI:=Hh hI
 have HN:=Hh h
 have HS:=Hh hS
 have HW:=Hh hw
 have WL:=Hh hwl
 clear h hS hl hw hT hI b1 hwl hib
 cases hv:validN 8 x with
 | false=>
  rw [hv] at V
  obtain ⟨e1,e2⟩:=jse_bad hv
  have HE:=Hh (Ai e1 e2)
  clear hv e1 e2
  go_enter Tryz.func39,Tryz.ntmps39
  go_upto_region 1 with fail
  rw [←hw1]
  clear hw1
  go_wp2_with (go_at_call 31;(with_reducible refine (V.out).mono ?_);rintro e w2 ⟨rfl,hb2⟩)
  go_ret2
  exact ⟨by rw [HE.out.1,HE.out.2];rfl,B1.out.trans (hb2.mono B1.out.size)⟩
 | true=>
  rw [hv] at V
  have hnu:=HW.out hv
  have hwz:=writeN_same (e:=8) (d:=8) (Lr _) hv
  have HV:=Hh hv
  have HNU:=Hh hnu
  clear hv hnu hwz
  go_enter Tryz.func39,Tryz.ntmps39
  go_upto_region 1 with fail
  rw [←hw1]
  clear hw1
  go_upto_region 3 with ((with_reducible refine (V.out).mono ?_);rintro e w2 ⟨rfl,hb2⟩)
  have LE:=Hh (letters_any w2)
  have hB2:=B1.out.trans (hb2.mono B1.out.size)
  have HB2:=Hh hb2
  have hz2:w.heap.size<w2.heap.size:=Ll WL.out hb2.size
  have BB2:=Hh hB2
  clear ck hb2 hB2
  go_upto_region 4 with ((with_reducible refine (LE.out).mono ?_);rintro e w3 ⟨rfl,hlt3,hb3⟩)
  have hB3:=BB2.out.trans (hb3.mono BB2.out.size)
  have hz3:w2.heap.size<w3.heap.size:=hlt3.lt
  have b4:=(Br w3.heap.size w3).alloc (o:=.cells #[.slice none 0 0,.map (some w2.heap.size)] 79) (Lr _)
  have st4:=WSt.fresh (w:=w3) hz3
  have hz4:(w3.alloc (.cells #[.slice none 0 0,.map (some w2.heap.size)] 79)).heap.size=w3.heap.size+1:=by simp
  have hlt4:=hlt3.below b4
  have hB4:=hB3.trans (b4.mono hB3.size)
  have hb24:=hb3.trans (b4.mono hb3.size)
  have ck4:=(HB2.out.trans (hb24.mono HB2.out.size))
  have cc4:∀q v,w1.cell? ⟨w.heap.size,q,none⟩=some v→(w3.alloc (.cells #[.slice none 0 0,.map (some w2.heap.size)] 79)).cell? ⟨w.heap.size,q,none⟩=some v:=fun q v hq=>(ck4.cell (p:=⟨w.heap.size,q,none⟩) WL.out).trans hq
  have d0:=cc4 0 _ CK.out.1
  have d1:=cc4 1 _ CK.out.2.1
  have d2:=cc4 2 _ CK.out.2.2.1
  have d3:=cc4 3 _ CK.out.2.2.2.1
  have d4:=cc4 4 _ CK.out.2.2.2.2.1
  have d5:=cc4 5 _ CK.out.2.2.2.2.2
  clear cc4 ck4
  generalize w3.alloc (.cells #[.slice none 0 0,.map (some w2.heap.size)] 79)=w4 at b4 st4 hz4 hlt4 hB4 hb24 d0 d1 d2 d3 d4 d5 ⊢
  have N4:=Hh (nodew_any 8 (by decide) D S _ x w4 (w3.heap.size+1) w3.heap.size w2.heap.size [] st4 hlt4 (by omega) (Nat.zero_le _) (HN.out.same fun b hb=>hB4.block b (HS.out b hb)) (fun b hb=>by have:=HS.out b hb;omega) HV.out HNU.out (ITb.of HI.out hB4 (by omega)))
  have HB4:=Hh hB4
  have hwg:w.heap.size≤w3.heap.size:=by omega
  clear hb3 b4 st4 hlt3 hlt4 hB3 hB4 hb24 hz4
  go_upto_region 5 with ((with_reducible refine (N4.out).mono ?_);rintro e w5 ⟨rfl,l5,hst5,hout5,hlen5,hfr5⟩)
  clear d0 d1 d2 d3 d4 d5
  have EX:=Hh (wexc_any w5 hst5)
  have hfin:=HB4.out.trans (hfr5.below hwg)
  obtain ⟨v5,k1,k2,-,-⟩:=hst5
  have c5:w5.cell? ⟨w3.heap.size,0,none⟩=some v5:=cell_blk k1 rfl
  obtain ⟨ao,cap,rfl,-,-⟩:=wown_form k2
  have hcv:=conv_owns (P:=Tryz.prog) w5 56 9 5 (w3.heap.size+1) l5.length _ l5 k2 Tryz.underlying56 Tryz.underlying5 Tryz.underlying9
  have HFIN:=Hh hfin
  clear hfin hfr5 k1 k2 hlen5
  by_cases hov:65536<l5.length
  ·rw [decide_eq_true hov] at EX
   have hlong:=hout5.over hov
   obtain ⟨e1,e2⟩:=jse_long HV.out (by simpa using hlong)
   have HE:=Hh (Ai e1 e2)
   clear e1 e2 hlong hout5 hov
   go_wp2_with (go_at_call 64;(with_reducible refine (EX.out).mono ?_);rintro e w6 ⟨rfl,rfl⟩)
   go_ret2
   exact ⟨by rw [HE.out.1,HE.out.2];rfl,HFIN.out⟩
  ·rw [decide_eq_false hov] at EX
   have he:=hout5.fits hov
   have hnl:¬65536<(writeN 8 x).length:=by rw [he] at hov;simpa using hov
   obtain ⟨e1,e2⟩:=jse_good HV.out hnl
   have HE:=Hh (Ai e1 e2)
   have HEQ:=Hh he
   clear e1 e2 hnl hout5 hov he
   go_wp2_with (go_at_call 64;(with_reducible refine (EX.out).mono ?_);rintro e w6 ⟨rfl,rfl⟩)
   go_ret2
   exact ⟨by rw [HE.out.1,HE.out.2,HEQ.out];rfl,HFIN.out⟩
theorem rwrite_zero:RWriteAt 0:=by
 intro D S cs x w h hS hv
 cases hv
theorem rwrite_any:∀d,RWriteAt d
 | 0=>rwrite_zero
 | d+1=>rwrite_step (rwrite_any d)
theorem jrenc_any {D:Nat} {S:Nat→Prop} (cs:List Value) (x:ND) (w:World) (h:NodeIn D S w cs x) (hS:∀b,S b→b<w.heap.size) (hl:lowV D x) (hw:validN 8 x=true→numsB 8 x=true∧(writeN 8 x).length≤35184372088832) (hT:Utab w) (hI:Itab w):Calls Tryz.prog 21 #[.agg cs.toArray] w (EncPost x w):=by
 obtain ⟨a1,l1,c1,a2,l2,c2,rfl⟩:=h.slices
 have b1:=(Br w.heap.size w).alloc (o:=.cells #[.int .i64 x.kind,.bool x.bool,.int .i64 x.num,.string x.text,.slice a1 l1 c1,.slice a2 l2 c2] 30) (Lr _)
 have ck:=six_of (Hn w (.cells #[.int .i64 x.kind,.bool x.bool,.int .i64 x.num,.string x.text,.slice a1 l1 c1,.slice a2 l2 c2] 30))
 have hwl:w.heap.size<(w.alloc (.cells #[.int .i64 x.kind,.bool x.bool,.int .i64 x.num,.string x.text,.slice a1 l1 c1,.slice a2 l2 c2] 30)).heap.size:=by simp
 obtain ⟨w1,hw1⟩:∃W,W=w.alloc (.cells #[.int .i64 x.kind,.bool x.bool,.int .i64 x.num,.string x.text,.slice a1 l1 c1,.slice a2 l2 c2] 30):=⟨_,rfl⟩
 rw [←hw1] at b1 ck hwl
 have V:=Hh (risvalid_any _ x w1 (h.same fun b hb=>b1.block b (hS b hb)) (fun b hb=>Ll (hS b hb) b1.size) hl (hT.below b1))
 have B1:=Hh b1
 have CK:=Hh ck
 have HI:=Hh hI
 have HN:=Hh h
 have HS:=Hh hS
 have HW:=Hh hw
 have WL:=Hh hwl
 clear h hS hl hw hT hI b1 hwl
 cases hv:validN 8 x with
 | false=>
  rw [hv] at V
  obtain ⟨e1,e2⟩:=jse_bad hv
  have HE:=Hh (Ai e1 e2)
  clear hv e1 e2
  go_enter Tryz.func21,Tryz.ntmps21
  go_upto_region 1 with fail
  rw [←hw1]
  clear hw1
  go_wp2_with (go_at_call 17;(with_reducible refine (V.out).mono ?_);rintro e w2 ⟨rfl,hb2⟩)
  go_ret2
  exact ⟨by rw [HE.out.1,HE.out.2];rfl,B1.out.trans (hb2.mono B1.out.size)⟩
 | true=>
  rw [hv] at V
  obtain ⟨hnu,hlen⟩:=HW.out hv
  have HV:=Hh hv
  have HNU:=Hh hnu
  have HLEN:=Hh hlen
  clear hv hnu hlen
  go_enter Tryz.func21,Tryz.ntmps21
  go_upto_region 1 with fail
  rw [←hw1]
  clear hw1
  go_upto_region 3 with ((with_reducible refine (V.out).mono ?_);rintro e w2 ⟨rfl,hb2⟩)
  have hB2:=B1.out.trans (hb2.mono B1.out.size)
  have cc:∀q v,w1.cell? ⟨w.heap.size,q,none⟩=some v→w2.cell? ⟨w.heap.size,q,none⟩=some v:=fun q v hq=>(hb2.cell (p:=⟨w.heap.size,q,none⟩) WL.out).trans hq
  have d0:=cc 0 _ CK.out.1
  have d1:=cc 1 _ CK.out.2.1
  have d2:=cc 2 _ CK.out.2.2.1
  have d3:=cc 3 _ CK.out.2.2.2.1
  have d4:=cc 4 _ CK.out.2.2.2.2.1
  have d5:=cc 5 _ CK.out.2.2.2.2.2
  have WR:=Hh (rwrite_any 8 D S _ x w2 (HN.out.same fun b hb=>hB2.block b (HS.out b hb)) (fun b hb=>Ll (HS.out b hb) hB2.size) HV.out HNU.out HLEN.out (HI.out.below hB2))
  obtain ⟨s,hs⟩:∃s:ByteArray,s=⟨(writeN 8 x).toArray⟩:=⟨_,rfl⟩
  rw [←hs] at WR
  have hsz:s.size=(writeN 8 x).length:=by rw [hs,ba_size]
  have HBB:=Hh hB2
  clear ck cc hb2 hB2
  by_cases hov:65536<s.size
  ·have hov':(65536:Int)<(s.size:Int):=by omega
   obtain ⟨e1,e2⟩:=jse_long HV.out (by omega)
   have HE:=Hh (Ai e1 e2)
   clear e1 e2 hs hsz hov
   go_wp2_with (go_at_call 36;(with_reducible refine (WR.out).mono ?_);rintro e w3 ⟨rfl,hb3⟩)
   go_ret2
   exact ⟨by rw [HE.out.1,HE.out.2];rfl,HBB.out.trans (hb3.mono HBB.out.size)⟩
  ·have hov':¬ (65536:Int)<(s.size:Int):=by omega
   obtain ⟨e1,e2⟩:=jse_good HV.out (by omega)
   have HE:=Hh (Ai (e1.trans hs.symm) e2)
   clear e1 e2 hs hsz hov
   go_wp2_with (go_at_call 36;(with_reducible refine (WR.out).mono ?_);rintro e w3 ⟨rfl,hb3⟩)
   go_ret2
   exact ⟨by rw [HE.out.1,HE.out.2];rfl,HBB.out.trans (hb3.mono HBB.out.size)⟩
theorem numsB_up:∀ {d e:Nat} {x:ND},d≤e→validN d x=true→numsB d x=true→numsB e x=true
 | 0,_,_,_,h,_=>by cases h
 | d+1,0,_,h,_,_=>by omega
 | d+1,e+1,x,hd,hv,hn=>by
  rw [validN_succ,Bool.and_eq_true,List.all_eq_true] at hv
  rw [numsB_succ,Bool.and_eq_true,List.all_eq_true] at hn ⊢
  exact ⟨hn.1,fun y hy=>numsB_up (by omega) (hv.2 y hy) (hn.2 y hy)⟩
theorem numsB_down:∀ {d e:Nat} {x:ND},d≤e→numsB e x=true→numsB d x=true
 | 0,_,_,_,_=>rfl
 | d+1,0,_,h,_=>by omega
 | d+1,e+1,x,hd,hn=>by
  rw [numsB_succ,Bool.and_eq_true,List.all_eq_true] at hn ⊢
  exact ⟨hn.1,fun y hy=>numsB_down (by omega) (hn.2 y hy)⟩
end Go.Proofs.YtdppdonaojdceaaGreatDoor