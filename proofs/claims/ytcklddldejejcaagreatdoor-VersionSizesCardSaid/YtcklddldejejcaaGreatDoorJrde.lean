/- The document's reader: values at every depth. -/
import Derived.Test.YtcklddldejejcaaGreatDoorJrli
set_option linter.unusedVariables false
set_option linter.unusedSimpArgs false
set_option maxHeartbeats 6400000
set_option maxRecDepth 100000
namespace Go.Proofs.YtcklddldejejcaaGreatDoor
open Go Go.ChangeShapes Go.WideShapes Go.ChangeAt Go.RowKit
theorem rv_on {V:ND→List UInt8→Prop} {d p:Nat} {s:ByteArray} {w wX wX' wY:World} {x:ND} {q:Int} {a1 a2:Option Addr} {l1 c1 l2 c2:Nat}
 (hn:NodeIn (d+1) (fun b=>wX.heap.size≤b∧b<wY.heap.size) wY [.int .i64 x.kind,.bool x.bool,.int .i64 x.num,.string x.text,.slice a1 l1 c1,.slice a2 l2 c2] x) (hX':wX'.heap.size≤wX.heap.size) (hX:w.heap.size<wX'.heap.size) (hb0:Below w.heap.size w wX) (hb:Below wX.heap.size wX wY) (hq:q=-1∨((p:Int)≤q∧q≤(s.size:Int)∧(costN (d+1) x:Int)≤40 * (q - (p:Int)))) (hf:lowV (d+1) x∧numsB (d+1) x=true) (hV:∀y t,V y t→x=y∧0≤q∧t=s.data.toList.drop q.toNat) :
 RvPost V d s p w (.returned (.tuple #[.agg #[.int .i64 x.kind,.bool x.bool,.int .i64 x.num,.string x.text,.slice a1 l1 c1,.slice a2 l2 c2],.int .i64 q])) (set6 wY w.heap.size (.int .i64 x.kind) (.bool x.bool) (.int .i64 x.num) (.string x.text) (.slice a1 l1 c1) (.slice a2 l2 c2)):=by
 have hgs:=grown_set6 wY w.heap.size (.int .i64 x.kind) (.bool x.bool) (.int .i64 x.num) (.string x.text) (.slice a1 l1 c1) (.slice a2 l2 c2)
 have h9:=hb0.trans (hb.mono hb0.size)
 refine ⟨[.int .i64 x.kind,.bool x.bool,.int .i64 x.num,.string x.text,.slice a1 l1 c1,.slice a2 l2 c2],x,q,rfl,?_,h9.grown hgs h9.size (fun k hk=>by cases hk;exact Lr _),hq,hf,hV⟩
 exact (hn.same fun b hb=>hgs.block b hb.2 (by intro e;have:=Option.some.inj e;omega)).mono fun b hb=>⟨by omega,Ll hb.2 hgs.size⟩
theorem leaf_up {d:Nat} {S:Nat→Prop} {w:World} {cs:List Value} {x:ND} (h:NodeIn 1 S w cs x) (hf:lowV 1 x∧numsB 1 x=true):lowV (d+1) x∧numsB (d+1) x=true:=by
 have hi:x.items=[]:=by
  obtain ⟨vn,vi,-,-,-,a,c,-,-,-,hx⟩:=h
  refine List.eq_nil_iff_forall_not_mem.2 fun y hy=>?_
  obtain ⟨j,hj⟩:=List.getElem?_of_mem hy
  obtain ⟨b,off,cs,-,-,-,hf⟩:=hx j y hj
  exact hf
 refine ⟨⟨by rw [hi];simp,fun y hy=>by rw [hi] at hy;simp at hy⟩,?_⟩
 have h7:=hf.2
 rw [numsB_succ,Bool.and_eq_true] at h7 ⊢
 exact ⟨h7.1,by rw [hi];rfl⟩
theorem leaf_hq {d p:Nat} {s:ByteArray} {S:Nat→Prop} {w:World} {cs:List Value} {x:ND} {q:Int} (h:NodeIn 1 S w cs x) (hq:q=-1∨((p:Int)≤q∧q≤(s.size:Int)∧(costN (0+1) x:Int)≤40 * (q - (p:Int)))):q=-1∨((p:Int)≤q∧q≤(s.size:Int)∧(costN (d+1) x:Int)≤40 * (q - (p:Int))):=by
 have hi:x.items=[]:=by
  obtain ⟨vn,vi,-,-,-,a,c,-,-,-,hx⟩:=h
  refine List.eq_nil_iff_forall_not_mem.2 fun y hy=>?_
  obtain ⟨j,hj⟩:=List.getElem?_of_mem hy
  obtain ⟨b,off,cs,-,-,-,hf⟩:=hx j y hj
  exact hf
 have e:costN (d+1) x=costN (0+1) x:=by rw [costN_succ,costN_succ,hi];rfl
 rw [e];exact hq
theorem rvalue_zero:RvAt 0:=by
 intro s p w hw0 hp hs
 have b0:=(Br w.heap.size w).alloc (o:=.cells #[.int .i64 0,.bool false,.int .i64 0,.string ⟨#[]⟩,.slice none 0 0,.slice none 0 0] 28) (Lr _)
 have k0:=Hn w (.cells #[.int .i64 0,.bool false,.int .i64 0,.string ⟨#[]⟩,.slice none 0 0,.slice none 0 0] 28)
 have B0:=Hh b0
 have K0:=Hh k0
 have f1:=free_six k0
 have c1:=six_of k0
 clear b0 k0
 go_enter Tryz.func81,Tryz.ntmps81
 go_upto_region 1 with fail
 generalize w.alloc (.cells #[.int .i64 0,.bool false,.int .i64 0,.string ⟨#[]⟩,.slice none 0 0,.slice none 0 0] 28)=w0 at B0 K0 f1 c1 ⊢
 go_wp2
 refine ret_node (v:=.int .i64 (-1)) K0.out Tryz.results81 rfl rfl rfl ?_
 exact rleaf_res 0 false 0 ⟨#[]⟩ (-1) B0.out (.inl rfl) (by decide) (by decide) (fun y t h=>by cases h)
theorem rvalue_step (d:Nat) (hd20:d≤20) (RV:RvAt d):RvAt (d+1):=by
 intro s p w hw0 hps hs
 rw [show ((d+1:Nat):Int)=(d:Int)+1 by omega]
 have h1d:¬ (d:Int)+1<1:=by omega
 obtain ⟨l,hl⟩:∃l,l=s.data.toList:=⟨_,rfl⟩
 have hsz:l.length=s.size:=by rw [hl,Array.length_toList];rfl
 have HSZ:=Hh hsz
 have HL:=Hh hl
 have HGET:Hid (∀ (p:Nat) (h:p<s.size),l[p]?=some (s[p]'h)):=Hh fun p h=>by rw [hl,List.getElem?_eq_getElem (by rw [Array.length_toList];exact h)];rfl
 have hsi:(s.size:Int)≤1000000:=by omega
 have hpi:(p:Int)≤(s.size:Int):=by omega
 have hpz:(0:Int)≤(p:Int):=by omega
 have b0:=(Br w.heap.size w).alloc (o:=.cells #[.int .i64 0,.bool false,.int .i64 0,.string ⟨#[]⟩,.slice none 0 0,.slice none 0 0] 28) (Lr _)
 have k0:=Hn w (.cells #[.int .i64 0,.bool false,.int .i64 0,.string ⟨#[]⟩,.slice none 0 0,.slice none 0 0] 28)
 have wl:w.heap.size<(w.alloc (.cells #[.int .i64 0,.bool false,.int .i64 0,.string ⟨#[]⟩,.slice none 0 0,.slice none 0 0] 28)).heap.size:=by simp
 clear hsz
 go_enter Tryz.func81,Tryz.ntmps81
 go_upto_region 1 with fail
 generalize w.alloc (.cells #[.int .i64 0,.bool false,.int .i64 0,.string ⟨#[]⟩,.slice none 0 0,.slice none 0 0] 28)=w0 at b0 k0 wl ⊢
 have B0:=Hh b0
 have K0:=Hh k0
 have WL:=Hh wl
 clear b0 k0 wl
 by_cases hpn:p<s.size
 ·have hpj:(p:Int)<(s.size:Int):=by omega
  have hpj2:¬ (s.size:Int)≤(p:Int):=by omega
  have gc:=HGET.out p hpn
  obtain ⟨c,hcc⟩:∃c,c=s[p]'hpn:=⟨_,rfl⟩
  rw [←hcc] at gc
  have hc':=hcc.symm
  have HG:=Hh gc
  clear hcc gc
  have R1:=fun wx=>rhas_any s ⟨#[110,117,108,108]⟩ p wx hps hs (by decide)
  have R2:=fun wx=>rhas_any s ⟨#[116,114,117,101]⟩ p wx hps hs (by decide)
  have R3:=fun wx=>rhas_any s ⟨#[102,97,108,115,101]⟩ p wx hps hs (by decide)
  rw [show (⟨#[110,117,108,108]⟩:ByteArray).data.toList=[110,117,108,108] from rfl,←HL.out] at R1
  rw [show (⟨#[116,114,117,101]⟩:ByteArray).data.toList=[116,114,117,101] from rfl,←HL.out] at R2
  rw [show (⟨#[102,97,108,115,101]⟩:ByteArray).data.toList=[102,97,108,115,101] from rfl,←HL.out] at R3
  cases h1:Lib.hasPrefix (l.drop p) [110,117,108,108] with
  | true=>
   rw [h1] at R1
   have H1:=Hh R1
   have h1':List.isPrefixOf [110,117,108,108] (l.drop p)=true:=h1
   clear R1 R2 R3 RV
   have VV:Hid (∀y t,valueP (d+1) (l.drop p)=some (y,t)→(.mk 0 false 0 ⟨#[]⟩ [] [])=y∧t=l.drop (p+4)):=Hh fun y t h=>by
    rw [drop_at HG.out,valueP_cons,←drop_at HG.out,if_pos h1'] at h
    cases h
    exact ⟨rfl,by rw [List.drop_drop]⟩
   have hpl:(p:Int)+4≤(s.size:Int):=by
    have h9:=h1
    rw [has_take,beq_iff_eq] at h9
    have h8:=congrArg List.length h9
    rw [List.length_take,List.length_drop] at h8
    have h7:([110,117,108,108]:List UInt8).length=4:=rfl
    have:=HSZ.out
    omega
   have hpw:IntKind.i64.wrap ((p:Int)+4)=(p:Int)+4:=IntWalk.i64_in _ (by omega)
   have f1:=free_six K0.out
   have c1:=six_of K0.out
   go_wp2_with (first | (go_at_call 125;(with_reducible refine (H1.out _).mono ?_);rintro e w1 ⟨rfl,rfl⟩))
   refine ret_node (v:=.int .i64 ((p:Int)+4)) K0.out Tryz.results81 rfl rfl rfl ?_
   exact rleaf_res 0 false 0 ⟨#[]⟩ ((p:Int)+4) B0.out (.inr ⟨by omega,by omega,by show 24+6 * ((0:Nat):Int)≤_;omega⟩) (by decide) (by decide) (fun y t h=>by obtain ⟨h1,h2⟩:=VV.out y t (by rw [HL.out];exact h);exact ⟨h1,by omega,by rw [h2,HL.out,show ((p:Int)+4).toNat=p+4 by omega]⟩)
  | false=>
  rw [h1] at R1
  have H1:=Hh R1
  have h1':¬List.isPrefixOf [110,117,108,108] (l.drop p)=true:=by intro h;have:Lib.hasPrefix (l.drop p) [110,117,108,108]=true:=h;rw [h1] at this;cases this
  clear h1 R1
  cases h2:Lib.hasPrefix (l.drop p) [116,114,117,101] with
  | true=>
   rw [h2] at R2
   have H2:=Hh R2
   have h2':List.isPrefixOf [116,114,117,101] (l.drop p)=true:=h2
   clear R2 R3 RV
   have VV:Hid (∀y t,valueP (d+1) (l.drop p)=some (y,t)→(.mk 1 true 0 ⟨#[]⟩ [] [])=y∧t=l.drop (p+4)):=Hh fun y t h=>by
    rw [drop_at HG.out,valueP_cons,←drop_at HG.out,if_neg h1',if_pos h2'] at h
    cases h
    exact ⟨rfl,by rw [List.drop_drop]⟩
   have hpl:(p:Int)+4≤(s.size:Int):=by
    have h9:=h2
    rw [has_take,beq_iff_eq] at h9
    have h8:=congrArg List.length h9
    rw [List.length_take,List.length_drop] at h8
    have h7:([116,114,117,101]:List UInt8).length=4:=rfl
    have:=HSZ.out
    omega
   have hpw:IntKind.i64.wrap ((p:Int)+4)=(p:Int)+4:=IntWalk.i64_in _ (by omega)
   have f1:=free_six K0.out
   have c1:=six_of K0.out
   go_wp2_with (first | (go_at_call 125;(with_reducible refine (H1.out _).mono ?_);rintro e w1 ⟨rfl,rfl⟩) | (go_at_call 125;(with_reducible refine (H2.out _).mono ?_);rintro e w2 ⟨rfl,rfl⟩))
   refine ret_node (v:=.int .i64 ((p:Int)+4)) K0.out Tryz.results81 rfl rfl rfl ?_
   exact rleaf_res 1 true 0 ⟨#[]⟩ ((p:Int)+4) B0.out (.inr ⟨by omega,by omega,by show 24+6 * ((0:Nat):Int)≤_;omega⟩) (by decide) (by decide) (fun y t h=>by obtain ⟨h1,h2⟩:=VV.out y t (by rw [HL.out];exact h);exact ⟨h1,by omega,by rw [h2,HL.out,show ((p:Int)+4).toNat=p+4 by omega]⟩)
  | false=>
  rw [h2] at R2
  have H2:=Hh R2
  have h2':¬List.isPrefixOf [116,114,117,101] (l.drop p)=true:=by intro h;have:Lib.hasPrefix (l.drop p) [116,114,117,101]=true:=h;rw [h2] at this;cases this
  clear h2 R2
  cases h3:Lib.hasPrefix (l.drop p) [102,97,108,115,101] with
  | true=>
   rw [h3] at R3
   have H3:=Hh R3
   have h3':List.isPrefixOf [102,97,108,115,101] (l.drop p)=true:=h3
   clear R3 RV
   have VV:Hid (∀y t,valueP (d+1) (l.drop p)=some (y,t)→(.mk 1 false 0 ⟨#[]⟩ [] [])=y∧t=l.drop (p+5)):=Hh fun y t h=>by
    rw [drop_at HG.out,valueP_cons,←drop_at HG.out,if_neg h1',if_neg h2',if_pos h3'] at h
    cases h
    exact ⟨rfl,by rw [List.drop_drop]⟩
   have hpl:(p:Int)+5≤(s.size:Int):=by
    have h9:=h3
    rw [has_take,beq_iff_eq] at h9
    have h8:=congrArg List.length h9
    rw [List.length_take,List.length_drop] at h8
    have h7:([102,97,108,115,101]:List UInt8).length=5:=rfl
    have:=HSZ.out
    omega
   have hpw:IntKind.i64.wrap ((p:Int)+5)=(p:Int)+5:=IntWalk.i64_in _ (by omega)
   have f1:=free_six K0.out
   have c1:=six_of K0.out
   go_wp2_with (first | (go_at_call 125;(with_reducible refine (H1.out _).mono ?_);rintro e w1 ⟨rfl,rfl⟩) | (go_at_call 125;(with_reducible refine (H2.out _).mono ?_);rintro e w2 ⟨rfl,rfl⟩) | (go_at_call 125;(with_reducible refine (H3.out _).mono ?_);rintro e w3 ⟨rfl,rfl⟩))
   refine ret_node (v:=.int .i64 ((p:Int)+5)) K0.out Tryz.results81 rfl rfl rfl ?_
   exact rleaf_res 1 false 0 ⟨#[]⟩ ((p:Int)+5) B0.out (.inr ⟨by omega,by omega,by show 24+6 * ((0:Nat):Int)≤_;omega⟩) (by decide) (by decide) (fun y t h=>by obtain ⟨h1,h2⟩:=VV.out y t (by rw [HL.out];exact h);exact ⟨h1,by omega,by rw [h2,HL.out,show ((p:Int)+5).toNat=p+5 by omega]⟩)
  | false=>
  rw [h3] at R3
  have H3:=Hh R3
  have h3':¬List.isPrefixOf [102,97,108,115,101] (l.drop p)=true:=by intro h;have:Lib.hasPrefix (l.drop p) [102,97,108,115,101]=true:=h;rw [h3] at this;cases this
  clear h3 R3
  by_cases n34:c=34
  ·have hc:=n34
   have m34:((c.toNat:Int) == 34)=true:=by rw [hc];rfl
   clear n34 h1' h2' h3'
   have QT:=Hh (fun (wx:World)=>rquoted_any s p wx hpn hs)
   have VV:Hid (∀y t,valueP (d+1) (l.drop p)=some (y,t)→∃o,quotedP (l.drop (p+1))=some (o,t)∧y=.mk 3 false 0 (bA o) [] []):=Hh fun y t h=>by
    rw [drop_at HG.out,hc] at h
    exact val_text h
   clear hc RV
   go_wp2_with (first | (go_at_call 125;(with_reducible refine (H1.out _).mono ?_);rintro e w1 ⟨rfl,rfl⟩) | (go_at_call 125;(with_reducible refine (H2.out _).mono ?_);rintro e w2 ⟨rfl,rfl⟩) | (go_at_call 125;(with_reducible refine (H3.out _).mono ?_);rintro e w3 ⟨rfl,rfl⟩) | (go_at_call 126;(with_reducible refine (QT.out _).mono ?_);rintro e5 w5 ⟨sl,q,rfl,hb5,hsl5,hq5,hqs5⟩;(have NT:=Hh (rtext5_any sl w5));(have HQ5:=Hh (Ai hsl5 (Ai hq5 hqs5)));clear hqs5 hq5 hsl5) | (go_at_call 33;(with_reducible refine (NT.out).mono ?_);rintro e6 w6 ⟨rfl,hb6⟩;(have hb56:=hb5.trans (hb6.mono hb5.size));(have hr9:=(hb56.block _ (lt_of_block K0.out)).trans K0.out);(have f9:=free_six hr9);(have c9:=six_of hr9);(have HR9:=Hh hr9);(have HB9:=Hh (B0.out.trans (hb56.mono B0.out.size)));clear hr9 hb56))
   refine ret_node (v:=.int .i64 q) HR9.out Tryz.results81 rfl rfl rfl ?_
   exact rleaf_res 3 false 0 sl q HB9.out (HQ5.out.2.1.imp (fun h=>h) (fun h=>by omega)) (by have:=HQ5.out.1;unfold maxLen;omega) (by decide) (fun y t h=>by
    obtain ⟨o,e1,e2⟩:=VV.out y t (by rw [HL.out];exact h)
    obtain ⟨h1,h2,h3⟩:=HQ5.out.2.2 o t (by rw [←HL.out];exact e1)
    rw [e2,h1]
    exact ⟨rfl,h2,h3⟩)
  ·have m34:((c.toNat:Int) == 34)=false:=by
    rw [beq_eq_false_iff_ne];intro h;exact n34 (UInt8.toNat_inj.1 (by rw [show (34:UInt8).toNat=34 from rfl];omega))
   by_cases n91:c=91
   ·have hc:=n91
    have m91:((c.toNat:Int) == 91)=true:=by rw [hc];rfl
    clear n91 n34 h1' h2' h3'
    have IT:=Hh (fun (wx:World) (h0:0<wx.heap.size)=>rlist_any d hd20 RV 4 93 (by decide) s p wx h0 hpn hs)
    rw [←HL.out] at IT
    rw [show ((93:UInt8).toNat:Int)=93 from rfl] at IT
    have VV:Hid (∀y t,valueP (d+1) (l.drop p)=some (y,t)→PItemsIs d 4 93 (l.drop (p+1)) y t):=Hh fun y t h=>by
     rw [drop_at HG.out,hc] at h
     exact val_list h
    have RO:=Hh (Ai B0.out K0.out)
    clear hc RV
    go_wp2_with (first | (go_at_call 125;(with_reducible refine (H1.out _).mono ?_);rintro e w1 ⟨rfl,rfl⟩) | (go_at_call 125;(with_reducible refine (H2.out _).mono ?_);rintro e w2 ⟨rfl,rfl⟩) | (go_at_call 125;(with_reducible refine (H3.out _).mono ?_);rintro e w3 ⟨rfl,rfl⟩) | (go_at_call 127;(with_reducible refine (IT.out _ (by have:=B0.out.size;omega)).mono ?_);rintro e5 w5 ⟨cs,x,q,rfl,hnode,hb5,hq5,hf5,hv5⟩;go_loud ((obtain ⟨a1,l1,c1,a2,l2,c2,hcs⟩:=hnode.slices);subst hcs;(have hr9:=(hb5.block _ (lt_of_block K0.out)).trans K0.out);(have f9:=free_six hr9);(have c9:=six_of hr9);(have HR9:=Hh hr9);(have HN:=Hh (Ai hnode (Ai hb5 (Ai hq5 hf5))));(have HVV:=Hh hv5);clear hr9 hnode hb5 hq5 hf5 hv5)))
    refine ret_node (v:=.int .i64 q) HR9.out Tryz.results81 rfl rfl rfl ?_
    exact rv_on HN.out.1 (Lr _) WL.out B0.out HN.out.2.1 HN.out.2.2.1 HN.out.2.2.2 (fun y t h=>HVV.out y t (VV.out y t (by rw [HL.out];exact h)))
   ·have m91:((c.toNat:Int) == 91)=false:=by
     rw [beq_eq_false_iff_ne];intro h;exact n91 (UInt8.toNat_inj.1 (by rw [show (91:UInt8).toNat=91 from rfl];omega))
    by_cases n123:c=123
    ·have hc:=n123
     have m123:((c.toNat:Int) == 123)=true:=by rw [hc];rfl
     clear n123 n91 n34 h1' h2' h3'
     have IT:=Hh (fun (wx:World) (h0:0<wx.heap.size)=>rlist_any d hd20 RV 5 125 (by decide) s p wx h0 hpn hs)
     rw [←HL.out] at IT
     rw [show ((125:UInt8).toNat:Int)=125 from rfl] at IT
     have VV:Hid (∀y t,valueP (d+1) (l.drop p)=some (y,t)→PItemsIs d 5 125 (l.drop (p+1)) y t):=Hh fun y t h=>by
      rw [drop_at HG.out,hc] at h
      exact val_map h
     have RO:=Hh (Ai B0.out K0.out)
     clear hc RV
     go_wp2_with (first | (go_at_call 125;(with_reducible refine (H1.out _).mono ?_);rintro e w1 ⟨rfl,rfl⟩) | (go_at_call 125;(with_reducible refine (H2.out _).mono ?_);rintro e w2 ⟨rfl,rfl⟩) | (go_at_call 125;(with_reducible refine (H3.out _).mono ?_);rintro e w3 ⟨rfl,rfl⟩) | (go_at_call 127;(with_reducible refine (IT.out _ (by have:=B0.out.size;omega)).mono ?_);rintro e5 w5 ⟨cs,x,q,rfl,hnode,hb5,hq5,hf5,hv5⟩;go_loud ((obtain ⟨a1,l1,c1,a2,l2,c2,hcs⟩:=hnode.slices);subst hcs;(have hr9:=(hb5.block _ (lt_of_block K0.out)).trans K0.out);(have f9:=free_six hr9);(have c9:=six_of hr9);(have HR9:=Hh hr9);(have HN:=Hh (Ai hnode (Ai hb5 (Ai hq5 hf5))));(have HVV:=Hh hv5);clear hr9 hnode hb5 hq5 hf5 hv5)))
     refine ret_node (v:=.int .i64 q) HR9.out Tryz.results81 rfl rfl rfl ?_
     exact rv_on HN.out.1 (Lr _) WL.out B0.out HN.out.2.1 HN.out.2.2.1 HN.out.2.2.2 (fun y t h=>HVV.out y t (VV.out y t (by rw [HL.out];exact h)))
    ·have m123:((c.toNat:Int) == 123)=false:=by
      rw [beq_eq_false_iff_ne];intro h;exact n123 (UInt8.toNat_inj.1 (by rw [show (123:UInt8).toNat=123 from rfl];omega))
     have hc:=n123
     have IT:=Hh (fun (wx:World)=>rnum_any s p wx hpn hs)
     rw [←HL.out] at IT
     have VV:Hid (∀y t,valueP (d+1) (l.drop p)=some (y,t)→numberP (l.drop p)=some (y,t)):=Hh fun y t h=>by
      rw [drop_at HG.out,valueP_cons,←drop_at HG.out,if_neg h1',if_neg h2',if_neg h3',if_neg n34,if_neg n91,if_neg n123] at h
      exact h
     have RO:=Hh (Ai B0.out K0.out)
     clear hc RV
     go_wp2_with (first | (go_at_call 125;(with_reducible refine (H1.out _).mono ?_);rintro e w1 ⟨rfl,rfl⟩) | (go_at_call 125;(with_reducible refine (H2.out _).mono ?_);rintro e w2 ⟨rfl,rfl⟩) | (go_at_call 125;(with_reducible refine (H3.out _).mono ?_);rintro e w3 ⟨rfl,rfl⟩) | (go_at_call 128;(with_reducible refine (IT.out _).mono ?_);rintro e5 w5 ⟨cs,x,q,rfl,hnode,hb5,hq5,hf5,hv5⟩;go_loud ((obtain ⟨a1,l1,c1,a2,l2,c2,hcs⟩:=hnode.slices);subst hcs;(have hr9:=(hb5.block _ (lt_of_block K0.out)).trans K0.out);(have f9:=free_six hr9);(have c9:=six_of hr9);(have HR9:=Hh hr9);(have HN:=Hh (Ai hnode (Ai hb5 (Ai hq5 hf5))));(have HVV:=Hh hv5);clear hr9 hnode hb5 hq5 hf5 hv5)))
     refine ret_node (v:=.int .i64 q) HR9.out Tryz.results81 rfl rfl rfl ?_
     exact rv_on (HN.out.1.deeper (show 0+1≤d+1+1 by omega)) (Lr _) WL.out B0.out HN.out.2.1 (leaf_hq HN.out.1 HN.out.2.2.1) (leaf_up HN.out.1 HN.out.2.2.2) (fun y t h=>HVV.out y t (VV.out y t (by rw [HL.out];exact h)))
 ·have hpj:¬ (p:Int)<(s.size:Int):=by omega
  have hpj2:(s.size:Int)≤(p:Int):=by omega
  have VV:Hid (∀y t,¬valueP (d+1) (l.drop p)=some (y,t)):=Hh fun y t h=>by
   rw [List.drop_eq_nil_of_le (by have:=HSZ.out;omega),val_nil] at h;cases h
  have f1:=free_six K0.out
  have c1:=six_of K0.out
  clear RV
  go_wp2
  refine ret_node (v:=.int .i64 (-1)) K0.out Tryz.results81 rfl rfl rfl ?_
  exact rleaf_res 0 false 0 ⟨#[]⟩ (-1) B0.out (.inl rfl) (by decide) (by decide) (fun y t h=>absurd (by rw [HL.out];exact h) (VV.out y t))
theorem rvalue_any:∀d,d≤20→RvAt d
 | 0,_=>rvalue_zero
 | d+1,h=>rvalue_step d (by omega) (rvalue_any d (by omega))
theorem rdec_none {s:ByteArray} {w wx:World} (hb:Below w.heap.size w wx) (hV:DecIs s nd0 4) :
 DecPost s w (.returned (.tuple #[.agg #[.int .i64 0,.bool false,.int .i64 0,.string ⟨#[]⟩,.slice none 0 0,.slice none 0 0],.int .i64 4])) (set6 wx w.heap.size (.int .i64 0) (.bool false) (.int .i64 0) (.string ⟨#[]⟩) (.slice none 0 0) (.slice none 0 0)):=by
 have hgs:=grown_set6 wx w.heap.size (.int .i64 0) (.bool false) (.int .i64 0) (.string ⟨#[]⟩) (.slice none 0 0) (.slice none 0 0)
 exact ⟨[.int .i64 0,.bool false,.int .i64 0,.string ⟨#[]⟩,.slice none 0 0,.slice none 0 0],nd0,4,rfl,(node_leaf _ _ 0 false 0 ⟨#[]⟩ (by decide)).deeper (by decide),hb.grown hgs hb.size (fun k hk=>by cases hk;exact Lr _),hV⟩
theorem rdec_any (s:ByteArray) (w:World) (hT:Utab w) (hI:Itab w) (hw0:0<w.heap.size):Calls Tryz.prog 43 #[.string s] w (DecPost s w):=by
 have b0:=(Br w.heap.size w).alloc (o:=.cells #[.int .i64 0,.bool false,.int .i64 0,.string ⟨#[]⟩,.slice none 0 0,.slice none 0 0] 28) (Lr _)
 have hr0:=Hn w (.cells #[.int .i64 0,.bool false,.int .i64 0,.string ⟨#[]⟩,.slice none 0 0,.slice none 0 0] 28)
 by_cases hl:65536<s.size
 ·have hl':(65536:Int)<(s.size:Int):=by omega
  have HV:Hid (DecIs s nd0 4):=Hh (.inr ⟨rfl,rfl,fun y _ _ h=>absurd h (by omega)⟩)
  have B0:=Hh b0
  have HR:=Hh hr0
  clear hl b0 hr0
  go_enter Tryz.func43,Tryz.ntmps43
  go_upto_region 1 with fail
  generalize w.alloc (.cells #[.int .i64 0,.bool false,.int .i64 0,.string ⟨#[]⟩,.slice none 0 0,.slice none 0 0] 28)=w0 at B0 HR ⊢
  have f1:=free_six HR.out
  have cz1:=six_of HR.out
  go_wp2
  refine ret_node (v:=.int .i64 4) HR.out Tryz.results43 rfl rfl rfl ?_
  exact rdec_none B0.out HV.out
 ·have hl':¬ (65536:Int)<(s.size:Int):=by omega
  have hsl:s.data.toList.length=s.size:=by rw [Array.length_toList];rfl
  have HSL:=Hh hsl
  have HL:=Hh hl
  have HT:=Hh (Ai hT hI)
  have hsi:(s.size:Int)≤65536:=by omega
  clear hT hI hl hsl
  go_enter Tryz.func43,Tryz.ntmps43
  go_upto_region 1 with fail
  generalize w.alloc (.cells #[.int .i64 0,.bool false,.int .i64 0,.string ⟨#[]⟩,.slice none 0 0,.slice none 0 0] 28)=w0 at b0 hr0 ⊢
  have B0:=Hh b0
  have HR:=Hh hr0
  have VC:=rvalue_any 8 (by decide) s 0 w0 (by have:=b0.size;omega) (Nat.zero_le _) (by have:=HL.out;omega)
  rw [show ((8:Nat):Int)=8 from rfl,show ((0:Nat):Int)=0 from rfl,List.drop_zero] at VC
  have VV:=Hh VC
  clear b0 hr0 VC
  go_upto_region 4 with ((with_reducible refine (VV.out).mono ?_);rintro e5 w5 ⟨cs,x,q,rfl,hnode,hb5,hq5,hf5,hv5⟩;go_loud ((obtain ⟨a1,l1,c1,a2,l2,c2,hcs⟩:=hnode.slices);subst hcs))
  have b6:=(Br w5.heap.size w5).alloc (o:=.cells #[.int .i64 x.kind,.bool x.bool,.int .i64 x.num,.string x.text,.slice a1 l1 c1,.slice a2 l2 c2] 28) (Lr _)
  have k6:=Hn w5 (.cells #[.int .i64 x.kind,.bool x.bool,.int .i64 x.num,.string x.text,.slice a1 l1 c1,.slice a2 l2 c2] 28)
  have hnd6:=hnode.same fun b hb=>b6.block b hb.2
  have hB5:=B0.out.trans (hb5.mono B0.out.size)
  have hB6:=hB5.trans (b6.mono hB5.size)
  have hr6:=(b6.block _ (by have:=hb5.size;have:=lt_of_block HR.out;omega)).trans ((hb5.block _ (lt_of_block HR.out)).trans HR.out)
  have hz5:w.heap.size<w5.heap.size:=by have:=hb5.size;have:=lt_of_block HR.out;omega
  generalize w5.alloc (.cells #[.int .i64 x.kind,.bool x.bool,.int .i64 x.num,.string x.text,.slice a1 l1 c1,.slice a2 l2 c2] 28)=w6 at b6 k6 hnd6 hB6 hr6 ⊢
  obtain ⟨g6,hg6⟩:∃g,g=w5.heap.size:=⟨_,rfl⟩
  rw [←hg6] at k6 hz5 ⊢
  have HZ5:=Hh (Ai hz5 (Ai hg6 b6.size))
  have HB6:=Hh hB6
  have HR6:=Hh hr6
  have HK6:=Hh k6
  have HND:=Hh (Ai hnd6 B0.out.size)
  have HQ:=Hh hq5
  have HF:=Hh hf5
  have hv8:∀y,validN 8 y=true→numsB 8 y=true→writeN 8 y=s.data.toList→x=y∧(s.size:Int)≤q:=fun y h1 h2 h3=>by
   have:=valueP_back 8 y [] h1 h2 okR_nil
   rw [List.append_nil,h3] at this
   obtain ⟨e1,e2,e3⟩:=hv5 y [] this
   refine ⟨e1,?_⟩
   have:=congrArg List.length e3
   rw [List.length_drop,HSL.out] at this
   simp at this
   omega
  have HV8:=Hh hv8
  have hck:=six_of k6
  have VA:=Hh (risvalid_any _ x w6 hnd6 (fun b hb=>Ll hb.2 (by have:=b6.size;omega)) hf5.1 (HT.out.1.below hB6))
  clear hg6 k6 hnd6 hB6 hr6 hv8 hv5 hnode hb5 hf5 hq5 hB5 VV b6 hz5
  by_cases hq:q=(s.size:Int)
  ·subst hq
   have hqq:((s.size:Int) != (s.size:Int))=false:=by simp
   cases hv:validN 8 x with
   | false=>
    rw [hv] at VA
    have HV:Hid (DecIs s nd0 4):=Hh (.inr ⟨rfl,rfl,fun y h1 h2 h3 h4=>by
     obtain ⟨rfl,-⟩:=HV8.out y h1 h2 h4
     rw [hv] at h1;cases h1⟩)
    clear hv
    go_upto_region 5 with ((with_reducible refine (VA.out).mono ?_);rintro e7 w7 ⟨rfl,hb7⟩)
    have hB7:=HB6.out.trans (hb7.mono HB6.out.size)
    have hr7:=(hb7.block _ (lt_of_block HR6.out)).trans HR6.out
    have f1:=free_six hr7
    have cz1:=six_of hr7
    go_wp2
    refine ret_node (v:=.int .i64 4) hr7 Tryz.results43 rfl rfl rfl ?_
    exact rdec_none hB7 HV.out
   | true=>
    rw [hv] at VA
    have hnu:numsB 8 x=true:=numsB_down (by decide) HF.out.2
    have hcost:(writeN 8 x).length≤35184372088832:=by
     have h1:=writeN_cost 8 x hv hnu
     have h2:=costN_same (e:=8) (d:=9) (by decide) hv
     rcases HQ.out with h | ⟨-,-,h⟩
     ·omega
     ·have h:(costN (8+1) x:Int)≤40 * ((s.size:Int) - 0):=h
      rw [show (8:Nat)+1=9 from rfl,h2] at h
      omega
    have WR:=Hh (fun wx (hb:Below w6.heap.size w6 wx)=>rwrite_any 8 9 _ _ x wx (HND.out.1.same fun b hb'=>hb.block b (Ll hb'.2 (by have:=HZ5.out;omega))) (fun b hb'=>Ll hb'.2 (by have:=HZ5.out;have:=hb.size;omega)) hv hnu hcost (HT.out.2.below (HB6.out.trans (hb.mono HB6.out.size))))
    have CK:=Hh (fun wx (hb:Below w6.heap.size w6 wx)=>six_of ((hb.block _ (lt_of_block HK6.out)).trans HK6.out))
    obtain ⟨t,ht⟩:∃t:ByteArray,t=⟨(writeN 8 x).toArray⟩:=⟨_,rfl⟩
    rw [←ht] at WR
    have htl:t.data.toList=writeN 8 x:=by rw [ht]
    have HTL:=Hh htl
    have HVN:=Hh (Ai hv hnu)
    clear ht hv hnu hcost htl
    by_cases hts:t=s
    ·have tts:(t.toList == s.toList)=true:=str_beq hts
     have tts2:(t.toList != s.toList)=false:=by rw [bne,tts];rfl
     have HV:Hid (DecIs s x 0):=Hh (.inl ⟨rfl,HVN.out.1,HVN.out.2,by rw [←HTL.out,hts],by have:=HL.out;omega⟩)
     clear hts
     go_upto_region 6 with (first
      | (go_at_call 61;(with_reducible refine (VA.out).mono ?_);rintro e7 w7 ⟨rfl,hb7⟩;(have ck7:=CK.out _ hb7))
      | (go_at_call 82;(with_reducible refine (WR.out _ hb7).mono ?_);rintro e8 w8 ⟨rfl,hb8⟩))
     have hb68:=hb7.trans (hb8.mono hb7.size)
     have hB8:=HB6.out.trans (hb68.mono HB6.out.size)
     have hr8:=(hb68.block _ (lt_of_block HR6.out)).trans HR6.out
     have ck8:=CK.out _ hb68
     have HR8:=Hh hr8
     have HB8:=Hh hB8
     have HB68:=Hh hb68
     have f1:=free_six hr8
     have cz1:=six_of hr8
     clear hb68 hB8 hr8 hb7 hb8 ck7 hck
     go_wp2
     refine ret_node (v:=.int .i64 0) HR8.out Tryz.results43 rfl rfl rfl ?_
     have hgs:=grown_set6 w8 w.heap.size (.int .i64 x.kind) (.bool x.bool) (.int .i64 x.num) (.string x.text) (.slice a1 l1 c1) (.slice a2 l2 c2)
     refine ⟨[.int .i64 x.kind,.bool x.bool,.int .i64 x.num,.string x.text,.slice a1 l1 c1,.slice a2 l2 c2],x,0,rfl,?_,HB8.out.grown hgs HB8.out.size (fun k hk=>by cases hk;exact Lr _),HV.out⟩
     have hz:=HZ5.out
     have hzb:=HB68.out.size
     have hr:=lt_of_block HR.out
     exact ((HND.out.1.same fun b hb=>HB68.out.block b (by omega)).same fun b hb=>hgs.block b (by omega) (by intro e;have:=Option.some.inj e;omega)).mono fun b hb=>⟨by have:=HND.out.2;omega,Ll (by omega) hgs.size⟩
    ·have tts:(t.toList == s.toList)=false:=str_bne hts
     have tts2:(t.toList != s.toList)=true:=by rw [bne,tts];rfl
     have HV:Hid (DecIs s nd0 4):=Hh (.inr ⟨rfl,rfl,fun y h1 h2 h3 h4=>by
      obtain ⟨rfl,-⟩:=HV8.out y h1 h2 h4
      apply hts
      have e1:=HTL.out.trans h4
      rw [←bA_of t,←bA_of s,e1]⟩)
     clear hts
     go_upto_region 5 with (first
      | (go_at_call 61;(with_reducible refine (VA.out).mono ?_);rintro e7 w7 ⟨rfl,hb7⟩;(have ck7:=CK.out _ hb7))
      | (go_at_call 82;(with_reducible refine (WR.out _ hb7).mono ?_);rintro e8 w8 ⟨rfl,hb8⟩))
     have hb68:=hb7.trans (hb8.mono hb7.size)
     have hB8:=HB6.out.trans (hb68.mono HB6.out.size)
     have hr8:=(hb68.block _ (lt_of_block HR6.out)).trans HR6.out
     have f1:=free_six hr8
     have cz1:=six_of hr8
     go_wp2
     refine ret_node (v:=.int .i64 4) hr8 Tryz.results43 rfl rfl rfl ?_
     exact rdec_none hB8 HV.out
  ·have hqq:(q != (s.size:Int))=true:=by simp [hq]
   have hqq2:(q == (s.size:Int))=false:=by simp [hq]
   have HV:Hid (DecIs s nd0 4):=Hh (.inr ⟨rfl,rfl,fun y h1 h2 h3 h4=>by
    obtain ⟨-,h5⟩:=HV8.out y h1 h2 h4
    rcases HQ.out with h | ⟨-,h,-⟩
    ·omega
    ·exact hq (by omega)⟩)
   clear hq
   have f1:=free_six HR6.out
   have cz1:=six_of HR6.out
   go_wp2
   refine ret_node (v:=.int .i64 4) HR6.out Tryz.results43 rfl rfl rfl ?_
   exact rdec_none HB6.out HV.out
end Go.Proofs.YtcklddldejejcaaGreatDoor