/- Parse and Find: the program's own. -/
import Derived.Test.YtcklddldejejcaaGreatDoorVtx
set_option linter.unusedVariables false
set_option linter.unusedSimpArgs false
set_option maxHeartbeats 6400000
set_option maxRecDepth 100000
namespace Go.Proofs.YtcklddldejejcaaGreatDoor
open Go Go.Maps Go.ChangeShapes Go.WideShapes Go.ChangeAt Go.RowKit
theorem vext_list (s:ByteArray) (i j:Nat):(s.extract i j).data.toList=(s.data.toList.drop i).take (j - i):=by
 simp [ByteArray.data_extract]
theorem vt_ok' {v:VD} (h:validV v=true):(vtS v).data.toList=textV v:=by unfold vtS;rw [if_pos h]
theorem pv_lax {s:ByteArray} {v:VD} (hs:s.size=17) (hp:v.p=s.extract 0 4) (ha:∀u,vhN (s.extract 4 5).data.toList=some u→v.a=u) (hb:∀u,vhN (s.extract 5 6).data.toList=some u→v.b=u) (hf:v.f=formN (s.extract 6 10).data.toList) (hz:∀u,vhN (s.extract 10 16).data.toList=some u→v.z=u) :
 (vtE v=0→vtS v=s→parseV s.data.toList=some v)∧((vtE v ≠ 0∨vtS v ≠ s)→parseV s.data.toList=none):=by
 have key:validV v=true→textV v=s.data.toList→parseV s.data.toList=some v:=fun h1 h2=>parse_iff.2 ⟨h1,h2⟩
 constructor
 ·intro h1 h2
  cases hv:validV v with
  | false=>unfold vtE at h1;rw [hv] at h1;cases h1
  | true=>exact key hv (by rw [← (vt_ok' hv),h2])
 ·intro h
  cases hq:parseV s.data.toList with
  | none=>rfl
  | some u=>
   exfalso
   obtain ⟨g1,g2⟩:=parse_inv hq
   obtain ⟨h1,h2,h3,h4,h5⟩:=validV_parts g1
   obtain ⟨q0,q1,q2,q3,q4,q5,q6⟩:=parts17 h1 (vhL_length 1 u.a.toNat) (vhL_length 1 u.b.toNat) (formL_len h2).1 (vhL_length 6 u.z.toNat) (E:=[95]) rfl
   have g3:u.p.data.toList++(vhL 1 u.a.toNat++(vhL 1 u.b.toNat++(formL u.f++(vhL 6 u.z.toNat++[95]))))=s.data.toList:=g2
   rw [g3] at q1 q2 q3 q4 q5
   have e1:=ha u.a.toNat (by rw [vext_list,q2];exact vhN_L 1 _ (by omega))
   have e2:=hb u.b.toNat (by rw [vext_list,q3];exact vhN_L 1 _ (by omega))
   have e3:=hz u.z.toNat (by rw [vext_list,q5];exact vhN_L 6 _ (by omega))
   have e4:v.f=u.f:=by rw [hf,vext_list,q4];exact (formL_len h2).2
   have e5:v.p=u.p:=by rw [hp];apply ByteArray.ext;apply Array.toList_inj.1;rw [vext_list];exact q1
   have ev:v=u:=by
    obtain ⟨p,a,b,f,z⟩:=v
    obtain ⟨p',a',b',f',z'⟩:=u
    simp only at e1 e2 e3 e4 e5 h3 h4 h5 ⊢
    rw [e1,e2,e3,e4,e5,Int.toNat_of_nonneg h3.1,Int.toNat_of_nonneg h4.1,Int.toNat_of_nonneg h5.1]
   subst ev
   rcases h with h | h
   ·exact h (by unfold vtE;rw [g1];rfl)
   ·exact h (by apply ByteArray.ext;apply Array.toList_inj.1;rw [vt_ok' g1];exact g2)
theorem wI_of {a:Int} (h:-16777216<a) (k:a<16777216):wI a:=by unfold wI;omega
theorem formN_le (l:List UInt8):0≤formN l∧formN l≤3:=by unfold formN;(repeat' split) <;> decide
theorem pv_len {s:ByteArray} (h:s.size ≠ 17):parseV s.data.toList=none:=by
 unfold parseV
 rw [if_neg]
 rw [Array.length_toList];exact h
def PsPost (s:ByteArray) (w:World) (e:Ending) (w':World):Prop:=e=.returned (.tuple #[.agg (vcs (pvV s.data.toList)),.int .i64 (pvE s.data.toList)])∧Below w.heap.size w w'
theorem ret_vers {f:Func} {Q:Ending→World→Prop} {a:Act} {w:World} {g c s:Nat} {x0 x1 x2 x3 x4 v y0 y1 y2 y3 y4:Value} (h:w.heap[g]?=some (.cells #[y0,y1,y2,y3,y4] 37 (0,0))) (hres:f.results=#[.cell c 37,.tmp s]) (hc:a.tmps.getD c undef=.pointer (some ⟨g,0,none⟩)) (hs:a.tmps.getD s undef=v) (hd:a.defers=[])
 (hQ:Q (.returned (.tuple #[.agg #[x0,x1,x2,x3,x4],v])) (set5 w g x0 x1 x2 x3 x4)):bodyPost Tryz.prog f Q .ret a (set5 w g x0 x1 x2 x3 x4):=by
 refine bodyPost_ret (v:=.tuple #[.agg #[x0,x1,x2,x3,x4],v]) ?_ hd hQ
 obtain ⟨q0,q1,q2,q3,q4⟩:=five_of (five_put h x0 x1 x2 x3 x4)
 obtain ⟨tm,df⟩:=a
 simp only [Array.getD_eq_getD_getElem?] at hc hs
 simp [results,hres,go_sem,hc,hs,q0,q1,q2,q3,q4]
def PW (w wx:World):Prop:=wx.heap[w.heap.size]?=some (.cells #[.string ⟨#[]⟩,.int .i64 0,.int .i64 0,.int .i64 0,.int .i64 0] 37 (0,0))∧Below w.heap.size w wx
theorem PW.step {w wx wn:World} (h:PW w wx) (hb:Below wx.heap.size wx wn):PW w wn:=⟨(hb.block _ (lt_of_block h.1)).trans h.1,h.2.trans (hb.mono h.2.size)⟩
theorem PW.b {w wx:World} (h:PW w wx):Below w.heap.size w wx:=h.2
def PA (w wx:World) (g:Nat):Prop:=wx.heap[g]?=some (.cells #[.string ⟨#[]⟩,.int .i64 0,.int .i64 0,.int .i64 0,.int .i64 0] 37 (0,0))∧w.heap.size<g
theorem PA.step {w wx wn:World} {g:Nat} (h:PA w wx g) (hb:Below wx.heap.size wx wn):PA w wn g:=⟨(hb.block _ (lt_of_block h.1)).trans h.1,h.2⟩
theorem PW.made {w wx:World} (h:PW w wx):PA w (wx.alloc (.cells #[.string ⟨#[]⟩,.int .i64 0,.int .i64 0,.int .i64 0,.int .i64 0] 37)) wx.heap.size:=⟨Hn wx _,lt_of_block h.1⟩
def NumIs (x:ByteArray) (a:Int):Prop:=(-16777216<a∧a<16777216)∧∀u,vhN x.data.toList=some u→0<x.size→a=u
theorem vparse_any (s:ByteArray) (w:World) (hT:DB w) (hE:VErr w):Calls Tryz.prog 42 #[.string s] w (PsPost s w):=by
 have b0:=(Br w.heap.size w).alloc (o:=.cells #[.string ⟨#[]⟩,.int .i64 0,.int .i64 0,.int .i64 0,.int .i64 0] 37) (Lr _)
 have k0:=Hn w (.cells #[.string ⟨#[]⟩,.int .i64 0,.int .i64 0,.int .i64 0,.int .i64 0] 37)
 by_cases hs:s.size=17
 ·have q1:((s.size:Int) != 17)=false:=by rw [hs];rfl
  have q2:((s.size:Int) == 17)=true:=by rw [hs];rfl
  have n1:(s.extract 4 5).size≤6:=by rw [ByteArray.size_extract];omega
  have n2:(s.extract 5 6).size≤6:=by rw [ByteArray.size_extract];omega
  have n3:(s.extract 10 16).size≤6:=by rw [ByteArray.size_extract];omega
  have m1:0<(s.extract 4 5).size:=by rw [ByteArray.size_extract];omega
  have m2:0<(s.extract 5 6).size:=by rw [ByteArray.size_extract];omega
  have m3:0<(s.extract 10 16).size:=by rw [ByteArray.size_extract];omega
  have HL:=Hh (Ai hs (Ai m1 (Ai m2 m3)))
  have N1:Hid (∀wx,VErr wx→Calls Tryz.prog 79 #[.string (s.extract 4 5)] wx (HnPost (s.extract 4 5) wx)):=Hh fun wx h=>hnum_any _ wx n1 h
  have N2:Hid (∀wx,VErr wx→Calls Tryz.prog 79 #[.string (s.extract 5 6)] wx (HnPost (s.extract 5 6) wx)):=Hh fun wx h=>hnum_any _ wx n2 h
  have N3:Hid (∀wx,VErr wx→Calls Tryz.prog 79 #[.string (s.extract 10 16)] wx (HnPost (s.extract 10 16) wx)):=Hh fun wx h=>hnum_any _ wx n3 h
  have FO:=Hh (fun wx:World=>fof_any (s.extract 6 10) wx)
  have HT:=Hh hT
  have HE:=Hh hE
  have z1:(4:Int)≤(s.size:Int):=by omega
  have z2:(5:Int)≤(s.size:Int):=by omega
  have z3:(6:Int)≤(s.size:Int):=by omega
  have z4:(10:Int)≤(s.size:Int):=by omega
  have z5:(16:Int)≤(s.size:Int):=by omega
  clear hs hT hE n1 n2 n3 m1 m2 m3
  go_enter Tryz.func42,Tryz.ntmps42
  go_upto_region 3 with fail
  generalize w.alloc _=w1 at b0 k0 ⊢
  have K0:=Hh k0
  have B0:=Hh b0
  clear k0 b0
  refine wp_region_plan (fun _=>True) [] (.take 0 (.take 1 (.take 2 (.take 3 (.take 5 (.take 6 (.take 8 (.take 9 (.take 11 (.take 12 (Plan.join true (.ask 4 false (.ask 7 false (.ask 10 false (.ask 13 false (.take 14 (.ask 15 false .stop .stop)) (.ask 15 false (.ask 13 false (.take 14 .stop) .stop) .stop)) (.ask 15 false (.ask 10 false (.ask 13 false (.take 14 .stop) .stop) .stop) .stop)) (.ask 15 false (.ask 7 false (.ask 10 false (.ask 13 false (.take 14 .stop) .stop) .stop) .stop) .stop)) (.ask 15 false (.ask 4 false (.ask 7 false (.ask 10 false (.ask 13 false (.take 14 .stop) .stop) .stop) .stop) .stop) .stop)) (.ask 16 false .stop .stop)))))))))))) (by kernel_rfl) (by kernel_rfl) (fun _ d _ _ _ h=>by cases d <;> exact h) trivial ?_
  have hb2:=(Br w1.heap.size w1).drew
  have B2:=Hh (B0.out.trans (hb2.mono B0.out.size))
  have K2:=Hh ((hb2.block _ (lt_of_block K0.out)).trans K0.out)
  clear hb2 B0 K0
  generalize w1.drew=wn0 at B2 K2 ⊢
  refine take_any _ ?_ rfl rfl ?_ (fun K hK=>?_);rotate_left;(intro w0;go_simp;(try rfl));(go_simp;refine hK _ ?_;clear hK K)
  refine take_any _ ?_ rfl rfl ?_ (fun K hK=>?_);rotate_left;(intro w0;go_simp;(try rfl));(go_simp;refine hK _ ?_;clear hK K)
  refine take_any _ ?_ rfl rfl ?_ (fun K hK=>?_);rotate_left;(intro w0;go_simp;(try rfl));(go_simp;refine hK _ ?_;clear hK K)
  refine take_any _ ?_ rfl rfl ?_ (fun K hK=>?_);rotate_left;(intro w0;go_simp;(try rfl));(go_simp;refine hK _ ?_;clear hK K)
  refine take_any _ ?_ rfl rfl ?_ (fun K hK=>?_);rotate_left;(intro w0;go_simp;(try rfl));(go_simp;refine hK _ ?_;clear hK K)
  refine take_any _ ?_ rfl rfl ?_ (fun K hK=>?_);rotate_left;(intro w0;go_simp;(try rfl));(go_simp;refine hK _ ?_;clear hK K)
  refine take_any _ ?_ rfl rfl ?_ (fun K hK=>?_);rotate_left;(intro w0;go_simp;(try rfl));(go_simp;refine hK _ ?_;clear hK K)
  refine take_any _ ?_ rfl rfl ?_ (fun K hK=>?_);rotate_left;(intro w0;go_simp;(try rfl));(go_simp;refine hK _ ?_;clear hK K)
  refine take_any _ ?_ rfl rfl ?_ (fun K hK=>?_);rotate_left;(intro w0;go_simp;(try rfl));(go_simp;refine hK _ ?_;clear hK K)
  refine take_any _ ?_ rfl rfl ?_ (fun K hK=>?_);rotate_left;(intro w0;go_simp;(try rfl));(go_simp;refine hK _ ?_;clear hK K)
  have HW0:Hid (PW w wn0):=Hh ⟨K2.out,B2.out⟩
  clear K2 B2
  obtain ⟨fv,hfv⟩:∃fv,fv=formN (s.extract 6 10).data.toList:=⟨_,rfl⟩
  rw [←hfv] at FO
  have HFV:=Hh hfv
  clear hfv
  refine plan_cut [4,15,18,21,24,25] (fun vs wx=>∃ (g4:Nat) (a b z:Int),vs=[.pointer (some ⟨g4,0,none⟩),.int .i64 a,.int .i64 b,.int .i64 fv,.int .i64 z,.agg #[.string (s.extract 0 4),.int .i64 a,.int .i64 b,.int .i64 fv,.int .i64 z]]∧NumIs (s.extract 4 5) a∧NumIs (s.extract 5 6) b∧NumIs (s.extract 10 16) z∧PA w wx g4∧PW w wx) ?_ ?_
  rotate_left
  ·rintro vs wx ⟨g4,a,b,z,rfl,ha,hb,hz,hA,hW⟩
   simp only [puts,Act.put,List.setIfInBounds_toArray,List.set_cons_zero,List.set_cons_succ]
   have f4:=free_five hA.1
   have c4:=five_of hA.1
   have k5:=five_put hA.1 (.string (s.extract 0 4)) (.int .i64 a) (.int .i64 b) (.int .i64 fv) (.int .i64 z)
   have g5:=grown_set5 wx g4 (.string (s.extract 0 4)) (.int .i64 a) (.int .i64 b) (.int .i64 fv) (.int .i64 z)
   have hlt:=hA.2
   have r5:=(g5.block _ (lt_of_block hW.1) (by intro e;have:=Option.some.inj e;omega)).trans hW.1
   have B5:=hW.2.grown g5 hW.2.size (fun k hk=>by cases hk;omega)
   have HLAX:=Hh (pv_lax (v:=⟨s.extract 0 4,a,b,fv,z⟩) HL.out.1 rfl (fun u hu=>ha.2 u hu HL.out.2.1) (fun u hu=>hb.2 u hu HL.out.2.2.1) HFV.out (fun u hu=>hz.2 u hu HL.out.2.2.2))
   have HWD:Hid (WideV ⟨s.extract 0 4,a,b,fv,z⟩):=Hh ⟨wI_of ha.1.1 ha.1.2,wI_of hb.1.1 hb.1.2,by have:=formN_le (s.extract 6 10).data.toList;rw [←HFV.out] at this;exact (wI_of (by omega) (by omega):wI fv),wI_of hz.1.1 hz.1.2⟩
   have HEV:Hid (vtE ⟨s.extract 0 4,a,b,fv,z⟩=0∨vtE ⟨s.extract 0 4,a,b,fv,z⟩=2):=Hh (by unfold vtE;split;exact .inl rfl;exact .inr rfl)
   have K5:=Hh (Ai k5 (Ai r5 B5))
   clear ha hb hz hA hW k5 g5 r5 B5 HL HFV HW0 FO N1 N2 N3 HE
   unfold set5 at K5
   refine ask_last _ rfl trivial ?_
   go_upto_region 4 with fail
   generalize ((((wx.setCell ⟨g4,0,none⟩ _).setCell ⟨g4,1,none⟩ _).setCell ⟨g4,2,none⟩ _).setCell ⟨g4,3,none⟩ _).setCell ⟨g4,4,none⟩ _=w5 at K5 ⊢
   have TX:Hid (Calls Tryz.prog 35 #[.agg #[.string (s.extract 0 4),.int .i64 a,.int .i64 b,.int .i64 fv,.int .i64 z]] w5 (TxPostV ⟨s.extract 0 4,a,b,fv,z⟩ w5)):=Hh (vertext_any ⟨s.extract 0 4,a,b,fv,z⟩ w5 HWD.out (HT.out.below K5.out.2.2))
   unfold TxPostV at TX
   have c5:=five_of K5.out.1
   obtain ⟨E,hE⟩:∃E,E=vtE ⟨s.extract 0 4,a,b,fv,z⟩:=⟨_,rfl⟩
   obtain ⟨S,hS⟩:∃S,S=vtS ⟨s.extract 0 4,a,b,fv,z⟩:=⟨_,rfl⟩
   rw [←hE] at HLAX HEV TX
   rw [←hS] at HLAX TX
   clear hE hS c4 f4 HWD HT
   go_upto_region 5 with ((with_reducible refine (TX.out).mono ?_);rintro e w6 ⟨rfl,hb6⟩)
   have k6:=(hb6.block _ (lt_of_block K5.out.1)).trans K5.out.1
   have r6:=(hb6.block _ (lt_of_block K5.out.2.1)).trans K5.out.2.1
   have B6:=Hh (K5.out.2.2.trans (hb6.mono K5.out.2.2.size))
   have c6:=five_of k6
   have d6:=five_of r6
   have f6:=free_five r6
   have R6:=Hh r6
   clear c5 TX K5 hb6 k6 r6
   have hev:=HEV.out
   rcases hev with rfl | rfl
   ·by_cases hq:S=s
    ·have e1:(S.toList == s.toList)=true:=by rw [hq];exact beq_self_eq_true _
     have e2:(S.toList != s.toList)=false:=by rw [bne,e1];rfl
     have HP:=Hh (HLAX.out.1 rfl hq)
     clear hq HLAX HEV
     go_wp2
     refine ret_vers (x0:=.string (s.extract 0 4)) (x1:=.int .i64 a) (x2:=.int .i64 b) (x3:=.int .i64 fv) (x4:=.int .i64 z) (v:=.int .i64 0) R6.out rfl rfl rfl rfl ?_
     exact ⟨by unfold pvV pvE;rw [HP.out];rfl,B6.out.grown (grown_set5 _ _ _ _ _ _ _) B6.out.size (fun k hk=>by cases hk;exact Lr _)⟩
    ·have e1:(S.toList == s.toList)=false:=by
      rw [beq_eq_false_iff_ne,Lib.toList_data,Lib.toList_data]
      intro e;exact hq (ByteArray.ext (Array.toList_inj.1 e))
     have e2:(S.toList != s.toList)=true:=by rw [bne,e1];rfl
     have HP:=Hh (HLAX.out.2 (.inr hq))
     clear hq HLAX HEV
     go_wp2
     refine ret_vers (x0:=.string ⟨#[]⟩) (x1:=.int .i64 0) (x2:=.int .i64 0) (x3:=.int .i64 0) (x4:=.int .i64 0) (v:=.int .i64 10) R6.out rfl rfl rfl rfl ?_
     exact ⟨by unfold pvV pvE;rw [HP.out];rfl,B6.out.grown (grown_set5 _ _ _ _ _ _ _) B6.out.size (fun k hk=>by cases hk;exact Lr _)⟩
   ·have HP:=Hh (HLAX.out.2 (.inl (by decide)))
    clear HLAX HEV
    go_wp2
    refine ret_vers (x0:=.string ⟨#[]⟩) (x1:=.int .i64 0) (x2:=.int .i64 0) (x3:=.int .i64 0) (x4:=.int .i64 0) (v:=.int .i64 10) R6.out rfl rfl rfl rfl ?_
    exact ⟨by unfold pvV pvE;rw [HP.out];rfl,B6.out.grown (grown_set5 _ _ _ _ _ _ _) B6.out.size (fun k hk=>by cases hk;exact Lr _)⟩
  ·skip
   refine ask_late _ rfl ?_ ?_
   ·refine ask_late _ rfl trivial ?_
    go_wp2_with fail
    refine Seg.mk ?_
    have HA1:=Hh (HW0.out.made)
    have HW1:=Hh (HW0.out.step ((Br _ _).alloc (o:=.cells #[.string ⟨#[]⟩,.int .i64 0,.int .i64 0,.int .i64 0,.int .i64 0] 37) (Lr _)))
    generalize wn0.alloc _=wn1 at HW1 HA1 ⊢
    generalize wn0.heap.size=g4 at HA1 ⊢
    refine ask_late _ rfl trivial ?_
    go_wp2_with (go_at_call 79;(with_reducible refine (N1.out _ (HE.out.below HW1.out.b)).mono ?_);rintro e wn2 ⟨va,rfl,hva,hua,hb2⟩)
    refine Seg.mk ?_
    have HW2:=Hh (HW1.out.step hb2)
    have HA2:=Hh (HA1.out.step hb2)
    have HVa:=Hh (Ai hva hua)
    clear hva hua
    clear hb2
    refine ask_late _ rfl trivial ?_
    go_wp2_with (go_at_call 79;(with_reducible refine (N2.out _ (HE.out.below HW2.out.b)).mono ?_);rintro e wn3 ⟨vb,rfl,hvb,hub,hb3⟩)
    refine Seg.mk ?_
    have HW3:=Hh (HW2.out.step hb3)
    have HA3:=Hh (HA2.out.step hb3)
    have HVb:=Hh (Ai hvb hub)
    clear hvb hub
    clear hb3
    refine ask_late _ rfl trivial ?_
    go_wp2_with (go_at_call 80;(with_reducible refine (FO.out _).mono ?_);rintro e wn4 ⟨rfl,hb4⟩)
    refine Seg.mk ?_
    have HW4:=Hh (HW3.out.step hb4)
    have HA4:=Hh (HA3.out.step hb4)
    clear hb4
    refine ask_late _ rfl trivial ?_
    go_wp2_with (go_at_call 79;(with_reducible refine (N3.out _ (HE.out.below HW4.out.b)).mono ?_);rintro e wn5 ⟨vz,rfl,hvz,huz,hb5⟩)
    refine Seg.mk ?_
    have HW5:=Hh (HW4.out.step hb5)
    have HA5:=Hh (HA4.out.step hb5)
    have HVz:=Hh (Ai hvz huz)
    clear hvz huz
    clear hb5
    refine take_any _ ?_ rfl rfl ?_ (fun K hK=>?_);rotate_left;(intro w0;go_simp;(try rfl));(go_simp;refine hK _ ?_;clear hK K)
    exact plan_meet [.pointer (some ⟨g4,0,none⟩),.int .i64 va,.int .i64 vb,.int .i64 fv,.int .i64 vz,.agg #[.string (s.extract 0 4),.int .i64 va,.int .i64 vb,.int .i64 fv,.int .i64 vz]] ⟨g4,va,vb,vz,rfl,HVa.out,HVb.out,HVz.out,HA5.out,HW5.out⟩ rfl
   ·go_wp2_with (go_at_call 79;(with_reducible refine (N1.out _ (HE.out.below HW0.out.b)).mono ?_);rintro e wn1 ⟨va,rfl,hva,hua,hb1⟩)
    refine Seg.mk ?_
    have HW1:=Hh (HW0.out.step hb1)
    have HVa:=Hh (Ai hva hua)
    clear hva hua
    clear hb1
    refine ask_late _ rfl ?_ ?_
    ·refine ask_late _ rfl trivial ?_
     go_wp2_with fail
     refine Seg.mk ?_
     have HA2:=Hh (HW1.out.made)
     have HW2:=Hh (HW1.out.step ((Br _ _).alloc (o:=.cells #[.string ⟨#[]⟩,.int .i64 0,.int .i64 0,.int .i64 0,.int .i64 0] 37) (Lr _)))
     generalize wn1.alloc _=wn2 at HW2 HA2 ⊢
     generalize wn1.heap.size=g4 at HA2 ⊢
     refine ask_late _ rfl trivial ?_
     go_wp2_with (go_at_call 79;(with_reducible refine (N2.out _ (HE.out.below HW2.out.b)).mono ?_);rintro e wn3 ⟨vb,rfl,hvb,hub,hb3⟩)
     refine Seg.mk ?_
     have HW3:=Hh (HW2.out.step hb3)
     have HA3:=Hh (HA2.out.step hb3)
     have HVb:=Hh (Ai hvb hub)
     clear hvb hub
     clear hb3
     refine ask_late _ rfl trivial ?_
     go_wp2_with (go_at_call 80;(with_reducible refine (FO.out _).mono ?_);rintro e wn4 ⟨rfl,hb4⟩)
     refine Seg.mk ?_
     have HW4:=Hh (HW3.out.step hb4)
     have HA4:=Hh (HA3.out.step hb4)
     clear hb4
     refine ask_late _ rfl trivial ?_
     go_wp2_with (go_at_call 79;(with_reducible refine (N3.out _ (HE.out.below HW4.out.b)).mono ?_);rintro e wn5 ⟨vz,rfl,hvz,huz,hb5⟩)
     refine Seg.mk ?_
     have HW5:=Hh (HW4.out.step hb5)
     have HA5:=Hh (HA4.out.step hb5)
     have HVz:=Hh (Ai hvz huz)
     clear hvz huz
     clear hb5
     refine take_any _ ?_ rfl rfl ?_ (fun K hK=>?_);rotate_left;(intro w0;go_simp;(try rfl));(go_simp;refine hK _ ?_;clear hK K)
     exact plan_meet [.pointer (some ⟨g4,0,none⟩),.int .i64 va,.int .i64 vb,.int .i64 fv,.int .i64 vz,.agg #[.string (s.extract 0 4),.int .i64 va,.int .i64 vb,.int .i64 fv,.int .i64 vz]] ⟨g4,va,vb,vz,rfl,HVa.out,HVb.out,HVz.out,HA5.out,HW5.out⟩ rfl
    ·go_wp2_with (go_at_call 79;(with_reducible refine (N2.out _ (HE.out.below HW1.out.b)).mono ?_);rintro e wn2 ⟨vb,rfl,hvb,hub,hb2⟩)
     refine Seg.mk ?_
     have HW2:=Hh (HW1.out.step hb2)
     have HVb:=Hh (Ai hvb hub)
     clear hvb hub
     clear hb2
     refine ask_late _ rfl ?_ ?_
     ·refine ask_late _ rfl trivial ?_
      go_wp2_with fail
      refine Seg.mk ?_
      have HA3:=Hh (HW2.out.made)
      have HW3:=Hh (HW2.out.step ((Br _ _).alloc (o:=.cells #[.string ⟨#[]⟩,.int .i64 0,.int .i64 0,.int .i64 0,.int .i64 0] 37) (Lr _)))
      generalize wn2.alloc _=wn3 at HW3 HA3 ⊢
      generalize wn2.heap.size=g4 at HA3 ⊢
      refine ask_late _ rfl trivial ?_
      go_wp2_with (go_at_call 80;(with_reducible refine (FO.out _).mono ?_);rintro e wn4 ⟨rfl,hb4⟩)
      refine Seg.mk ?_
      have HW4:=Hh (HW3.out.step hb4)
      have HA4:=Hh (HA3.out.step hb4)
      clear hb4
      refine ask_late _ rfl trivial ?_
      go_wp2_with (go_at_call 79;(with_reducible refine (N3.out _ (HE.out.below HW4.out.b)).mono ?_);rintro e wn5 ⟨vz,rfl,hvz,huz,hb5⟩)
      refine Seg.mk ?_
      have HW5:=Hh (HW4.out.step hb5)
      have HA5:=Hh (HA4.out.step hb5)
      have HVz:=Hh (Ai hvz huz)
      clear hvz huz
      clear hb5
      refine take_any _ ?_ rfl rfl ?_ (fun K hK=>?_);rotate_left;(intro w0;go_simp;(try rfl));(go_simp;refine hK _ ?_;clear hK K)
      exact plan_meet [.pointer (some ⟨g4,0,none⟩),.int .i64 va,.int .i64 vb,.int .i64 fv,.int .i64 vz,.agg #[.string (s.extract 0 4),.int .i64 va,.int .i64 vb,.int .i64 fv,.int .i64 vz]] ⟨g4,va,vb,vz,rfl,HVa.out,HVb.out,HVz.out,HA5.out,HW5.out⟩ rfl
     ·go_wp2_with (go_at_call 80;(with_reducible refine (FO.out _).mono ?_);rintro e wn3 ⟨rfl,hb3⟩)
      refine Seg.mk ?_
      have HW3:=Hh (HW2.out.step hb3)
      clear hb3
      refine ask_late _ rfl ?_ ?_
      ·refine ask_late _ rfl trivial ?_
       go_wp2_with fail
       refine Seg.mk ?_
       have HA4:=Hh (HW3.out.made)
       have HW4:=Hh (HW3.out.step ((Br _ _).alloc (o:=.cells #[.string ⟨#[]⟩,.int .i64 0,.int .i64 0,.int .i64 0,.int .i64 0] 37) (Lr _)))
       generalize wn3.alloc _=wn4 at HW4 HA4 ⊢
       generalize wn3.heap.size=g4 at HA4 ⊢
       refine ask_late _ rfl trivial ?_
       go_wp2_with (go_at_call 79;(with_reducible refine (N3.out _ (HE.out.below HW4.out.b)).mono ?_);rintro e wn5 ⟨vz,rfl,hvz,huz,hb5⟩)
       refine Seg.mk ?_
       have HW5:=Hh (HW4.out.step hb5)
       have HA5:=Hh (HA4.out.step hb5)
       have HVz:=Hh (Ai hvz huz)
       clear hvz huz
       clear hb5
       refine take_any _ ?_ rfl rfl ?_ (fun K hK=>?_);rotate_left;(intro w0;go_simp;(try rfl));(go_simp;refine hK _ ?_;clear hK K)
       exact plan_meet [.pointer (some ⟨g4,0,none⟩),.int .i64 va,.int .i64 vb,.int .i64 fv,.int .i64 vz,.agg #[.string (s.extract 0 4),.int .i64 va,.int .i64 vb,.int .i64 fv,.int .i64 vz]] ⟨g4,va,vb,vz,rfl,HVa.out,HVb.out,HVz.out,HA5.out,HW5.out⟩ rfl
      ·go_wp2_with (go_at_call 79;(with_reducible refine (N3.out _ (HE.out.below HW3.out.b)).mono ?_);rintro e wn4 ⟨vz,rfl,hvz,huz,hb4⟩)
       refine Seg.mk ?_
       have HW4:=Hh (HW3.out.step hb4)
       have HVz:=Hh (Ai hvz huz)
       clear hvz huz
       clear hb4
       refine take_any _ ?_ rfl rfl ?_ (fun K hK=>?_);rotate_left;(intro w0;go_simp;(try rfl));(go_simp;refine hK _ ?_;clear hK K)
       refine ask_late _ rfl trivial ?_
       go_wp2_with fail
       refine Seg.mk ?_
       have HA5:=Hh (HW4.out.made)
       have HW5:=Hh (HW4.out.step ((Br _ _).alloc (o:=.cells #[.string ⟨#[]⟩,.int .i64 0,.int .i64 0,.int .i64 0,.int .i64 0] 37) (Lr _)))
       generalize wn4.alloc _=wn5 at HW5 HA5 ⊢
       generalize wn4.heap.size=g4 at HA5 ⊢
       exact plan_meet [.pointer (some ⟨g4,0,none⟩),.int .i64 va,.int .i64 vb,.int .i64 fv,.int .i64 vz,.agg #[.string (s.extract 0 4),.int .i64 va,.int .i64 vb,.int .i64 fv,.int .i64 vz]] ⟨g4,va,vb,vz,rfl,HVa.out,HVb.out,HVz.out,HA5.out,HW5.out⟩ rfl
 ·have HP:=Hh (pv_len hs)
  have q1:((s.size:Int) != 17)=true:=by simp;omega
  have q2:((s.size:Int) == 17)=false:=by simp;omega
  clear hs hT hE
  go_enter Tryz.func42,Tryz.ntmps42
  go_upto_region 1 with fail
  generalize w.alloc _=w1 at b0 k0 ⊢
  have f0:=free_five k0
  have c0:=five_of k0
  have K0:=Hh k0
  have B0:=Hh b0
  clear k0 b0
  go_wp2
  refine ret_vers (x0:=.string ⟨#[]⟩) (x1:=.int .i64 0) (x2:=.int .i64 0) (x3:=.int .i64 0) (x4:=.int .i64 0) (v:=.int .i64 10) K0.out rfl rfl rfl rfl ?_
  exact ⟨by unfold pvV pvE;rw [HP.out];rfl,B0.out.grown (grown_set5 _ _ _ _ _ _ _) B0.out.size (fun k hk=>by cases hk;exact Lr _)⟩
end Go.Proofs.YtcklddldejejcaaGreatDoor